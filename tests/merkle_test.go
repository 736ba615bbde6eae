package tests

import (
	"encoding/binary"
	"math"
	"math/bits"
	"math/rand"
	"slices"
	"strconv"
	"strings"
	"testing"

	"loop.example/workchain/impl"
)

// letters returns n different leaves.
func letters(n int) []string {
	return strings.Split("abcdefghijklmnopqrstuvwxyzABCDEFGHIJKLMNOPQRSTUVWXYZ"[:n], "")
}

// numbered returns n different leaves, the first of which is the empty string and others of which look like strings of nodes.
func numbered(n int) []string {
	list := make([]string, n)
	for i := range list {
		list[i] = strings.Repeat("\x01\x00", i) + strings.Repeat("leaf", i%3)
	}
	return list
}

// treesOf returns lists of n leaves: different ones, equal ones, empty ones, and long ones.
func treesOf(n int) [][]string {
	mixed := slices.Repeat([]string{"", "a", "a", "\x00", "\xff\x00", "b", ""}, 6)[:n]
	same := slices.Repeat([]string{"x"}, n)
	return [][]string{letters(n), numbered(n), mixed, same, make([]string, n), slices.Repeat([]string{strings.Repeat("t", 500), "t"}, n)[:n]}
}

// someTrees returns lists of every length from 1 to LeafMax.
func someTrees() [][]string {
	var lists [][]string
	for n := 1; n <= impl.LeafMax; n++ {
		lists = append(lists, treesOf(n)...)
	}
	return lists
}

// tooLong are lists of more than LeafMax strings.
func tooLong() [][]string {
	return [][]string{letters(impl.LeafMax + 1), make([]string, impl.LeafMax+1), numbered(2 * impl.LeafMax), make([]string, 5000)}
}

// nodeString is the string of a node that has two below it.
func nodeString(a int, b int) string {
	return string(binary.BigEndian.AppendUint32(binary.BigEndian.AppendUint32([]byte{1}, uint32(a)), uint32(b)))
}

// levelsOf is the tree of a list from the leaves up: neighbours are put together, and the last node of an odd level goes up as it is. The parts that the document splits a list into have lengths that are powers of 2 but for the last one, so these are the same nodes.
func levelsOf(list []string) [][]int {
	level := make([]int, len(list))
	for i, leaf := range list {
		level[i] = digestOf("\x00" + leaf)
	}
	levels := [][]int{level}
	for len(level) > 1 {
		var above []int
		for i := 0; i < len(level); i += 2 {
			if i+1 < len(level) {
				above = append(above, digestOf(nodeString(level[i], level[i+1])))
			} else {
				above = append(above, level[i])
			}
		}
		level = above
		levels = append(levels, level)
	}
	return levels
}

// treeRoot is the root of a list, by levelsOf.
func treeRoot(list []string) int {
	levels := levelsOf(list)
	return levels[len(levels)-1][0]
}

// treeProof is the proof for a leaf, by levelsOf.
func treeProof(list []string, i int) []int {
	var proof []int
	for _, level := range levelsOf(list) {
		if i^1 < len(level) {
			proof = append(proof, level[i^1])
		}
		i /= 2
	}
	return proof
}

// treePath is the strings of the nodes on the path from a leaf to the root, the leaf first; it is false if the proof has not the length of the path.
func treePath(n int, i int, leaf string, proof []int) ([]string, bool) {
	path := []string{"\x00" + leaf}
	for ; n > 1; n = (n + 1) / 2 {
		if i^1 < n {
			if len(proof) == 0 {
				return nil, false
			}
			below := impl.Digest(path[len(path)-1])
			if i%2 == 0 {
				path = append(path, nodeString(below, proof[0]))
			} else {
				path = append(path, nodeString(proof[0], below))
			}
			proof = proof[1:]
		}
		i /= 2
	}
	return path, len(proof) == 0
}

// treeHolds is MerkleCheck, by treePath.
func treeHolds(root int, n int, i int, leaf string, proof []int) bool {
	if n < 1 || n > impl.LeafMax || i < 0 || i >= n {
		return false
	}
	for _, d := range proof {
		if d < 0 || d > impl.NumTop {
			return false
		}
	}
	path, fits := treePath(n, i, leaf, proof)
	return fits && impl.Digest(path[len(path)-1]) == root
}

// treePeaks is the peaks of a list: one for each binary digit 1 of its length.
func treePeaks(list []string) []int {
	var peaks []int
	for size := 64; size > 0; size /= 2 {
		if len(list)&size != 0 {
			rest := len(list) % size
			end := len(list) - rest
			peaks = append(peaks, treeRoot(list[end-size:end]))
		}
	}
	return peaks
}

func mustRoot(t *testing.T, list []string) int {
	t.Helper()
	root, ok := impl.MerkleRoot(list)
	if !ok {
		t.Fatalf("MerkleRoot of %d leaves is false", len(list))
	}
	return root
}

func mustProof(t *testing.T, list []string, i int) []int {
	t.Helper()
	proof, ok := impl.MerkleProof(list, i)
	if !ok {
		t.Fatalf("MerkleProof of %d leaves and index %d is false", len(list), i)
	}
	return proof
}

func mustPeaks(t *testing.T, list []string) []int {
	t.Helper()
	peaks, ok := impl.MerklePeaks(list)
	if !ok {
		t.Fatalf("MerklePeaks of %d leaves is false", len(list))
	}
	return peaks
}

// meetingBy searches for two numbers of which the function makes different strings with the same digest.
func meetingBy(t *testing.T, stringOf func(n int) string) (int, int) {
	t.Helper()
	seen := map[int]int{}
	for n := range 1 << 20 {
		s := stringOf(n)
		d := impl.Digest(s)
		if other, there := seen[d]; there && stringOf(other) != s {
			return other, n
		}
		seen[d] = n
	}
	t.Fatalf("no two strings meet")
	return 0, 0
}

// meetingLeaves returns two different leaves with the same digest in a tree.
func meetingLeaves(t *testing.T) (string, string) {
	t.Helper()
	a, b := meetingBy(t, func(n int) string { return "\x00" + strconv.Itoa(n) })
	return strconv.Itoa(a), strconv.Itoa(b)
}

// edgesNumbered returns leaves of which the first one and the last one tell the number.
func edgesNumbered(size int, n int) []string {
	list := letters(size)
	list[0] = "first " + strconv.Itoa(n)
	list[size-1] = "last " + strconv.Itoa(n)
	return list
}

// topString is the string of the root of a list.
func topString(t *testing.T, list []string) string {
	t.Helper()
	path, fits := treePath(len(list), 0, list[0], mustProof(t, list, 0))
	if !fits {
		t.Fatalf("MerkleProof of %d leaves has a wrong length", len(list))
	}
	return path[len(path)-1]
}

// meetingTrees returns two lists of one size whose roots have different strings with the same digest, and whose first and last leaves differ.
func meetingTrees(t *testing.T, size int) ([]string, []string) {
	t.Helper()
	a, b := meetingBy(t, func(n int) string { return topString(t, edgesNumbered(size, n)) })
	return edgesNumbered(size, a), edgesNumbered(size, b)
}

// nodesOf returns the first leaf and the number of leaves of each node of a tree of n leaves.
func nodesOf(n int) [][2]int {
	nodes := [][2]int{}
	for size := 1; size < 2*n; size *= 2 {
		for at := 0; at < n; at += size {
			node := [2]int{at, min(size, n-at)}
			if !slices.Contains(nodes, node) {
				nodes = append(nodes, node)
			}
		}
	}
	return nodes
}

func TestMerkleRootTellsTheNumbers(t *testing.T) {
	for _, c := range []struct {
		name string
		list []string
		want int
	}{
		{"the empty string", []string{""}, 1849130177},
		{"a", []string{"a"}, 2243718458},
		{"the byte 0", []string{"\x00"}, 104400168},
		{"the empty string twice", []string{"", ""}, 1910863119},
		{"a and b", []string{"a", "b"}, 1665731118},
		{"b and a", []string{"b", "a"}, 3167756594},
		{"3 leaves", letters(3), 824358929},
		{"4 leaves", letters(4), 3100104257},
		{"5 leaves", letters(5), 2100845796},
		{"7 leaves", letters(7), 2978755591},
		{"a three times", []string{"a", "a", "a"}, 1111832887},
		{"the empty string 5 times", make([]string, 5), 3206648727},
		{"20 leaves", letters(20), 2742909161},
		{"31 leaves", letters(31), 4144054872},
		{"32 leaves", letters(32), 4138913608},
		{"the empty string 32 times", make([]string, 32), 2793562073},
	} {
		if got, ok := impl.MerkleRoot(c.list); !ok || got != c.want {
			t.Errorf("MerkleRoot of %s is %d, %t, want %d", c.name, got, ok, c.want)
		}
	}
}

func TestMerkleRootOfEveryLength(t *testing.T) {
	for _, list := range someTrees() {
		if got, ok := impl.MerkleRoot(list); !ok || got != treeRoot(list) {
			t.Errorf("MerkleRoot(%q) is %d, %t, want %d", list, got, ok, treeRoot(list))
		}
	}
}

func TestMerkleRootRefusesOtherLengths(t *testing.T) {
	for _, list := range append(tooLong(), nil, []string{}) {
		if root, ok := impl.MerkleRoot(list); ok || root != 0 {
			t.Errorf("MerkleRoot of %d leaves is %d, %t", len(list), root, ok)
		}
	}
}

func TestP16MerkleRootIsPeaksRootOfMerklePeaks(t *testing.T) {
	for _, list := range someTrees() {
		root, ok := impl.PeaksRoot(mustPeaks(t, list))
		if !ok || root != mustRoot(t, list) {
			t.Errorf("PeaksRoot of the peaks of %q is %d, %t, but its root %d", list, root, ok, mustRoot(t, list))
		}
	}
}

func TestMerkleProofTellsTheNumbers(t *testing.T) {
	for _, c := range []struct {
		n, i int
		want []int
	}{
		{1, 0, nil},
		{2, 0, []int{1705459214}},
		{2, 1, []int{2243718458}},
		{3, 2, []int{1665731118}},
		{5, 0, []int{1705459214, 75800611, 1642534010}},
		{5, 4, []int{3100104257}},
		{6, 5, []int{1642534010, 3100104257}},
		{7, 6, []int{277194730, 3100104257}},
		{31, 30, []int{2355553402, 1590688016, 521240354, 2525870151}},
	} {
		if got, ok := impl.MerkleProof(letters(c.n), c.i); !ok || !slices.Equal(got, c.want) {
			t.Errorf("MerkleProof of %d leaves and index %d is %d, %t, want %d", c.n, c.i, got, ok, c.want)
		}
	}
}

func TestMerkleProofOfEveryIndex(t *testing.T) {
	for _, list := range someTrees() {
		for i := range list {
			got, ok := impl.MerkleProof(list, i)
			if want := treeProof(list, i); !ok || !slices.Equal(got, want) {
				t.Errorf("MerkleProof(%q, %d) is %d, %t, want %d", list, i, got, ok, want)
			}
		}
	}
}

func TestMerkleProofRefusesOtherIndicesAndLengths(t *testing.T) {
	for n := range impl.LeafMax + 1 {
		for _, i := range []int{-1, n, n + 1, math.MinInt, math.MaxInt, -n - 1} {
			if proof, ok := impl.MerkleProof(letters(n), i); ok || len(proof) != 0 {
				t.Errorf("MerkleProof of %d leaves and index %d is %d, %t", n, i, proof, ok)
			}
		}
	}
	for _, list := range append(tooLong(), nil, []string{}) {
		for _, i := range []int{0, 1, len(list) - 1} {
			if proof, ok := impl.MerkleProof(list, i); ok || len(proof) != 0 {
				t.Errorf("MerkleProof of %d leaves and index %d is %d, %t", len(list), i, proof, ok)
			}
		}
	}
}

func TestP17MerkleCheckOfMerkleProof(t *testing.T) {
	for _, list := range someTrees() {
		root := mustRoot(t, list)
		for i, leaf := range list {
			if !impl.MerkleCheck(root, len(list), i, leaf, mustProof(t, list, i)) {
				t.Errorf("MerkleCheck of the proof for index %d of %q is false", i, list)
			}
		}
	}
}

func TestMerkleCheckTakesANilProofAndAnEmptyOne(t *testing.T) {
	if !impl.MerkleCheck(1849130177, 1, 0, "", nil) || !impl.MerkleCheck(1849130177, 1, 0, "", []int{}) {
		t.Errorf("MerkleCheck of one leaf is false")
	}
	if impl.MerkleCheck(1849130177, 2, 0, "", nil) || impl.MerkleCheck(0, 1, 0, "", nil) {
		t.Errorf("MerkleCheck holds without a proof")
	}
}

func TestMerkleCheckOfWrongRootsAndLeaves(t *testing.T) {
	for n := 1; n <= impl.LeafMax; n++ {
		list := numbered(n)
		root := mustRoot(t, list)
		for i, leaf := range list {
			proof := mustProof(t, list, i)
			for _, r := range []int{root + 1, root - 1, root ^ 1<<31, -root, root + impl.DigestMod, 0, -1, impl.NumTop, math.MinInt, math.MaxInt} {
				if impl.MerkleCheck(r, n, i, leaf, proof) {
					t.Errorf("MerkleCheck holds of %d leaves, index %d and the root %d", n, i, r)
				}
			}
			for _, l := range []string{leaf + "x", leaf + "\x00", "\x00" + leaf, "y", list[(i+1)%n]} {
				if got := impl.MerkleCheck(root, n, i, l, proof); got != (l == leaf) {
					t.Errorf("MerkleCheck of %d leaves, index %d and the leaf %q is %t", n, i, l, got)
				}
			}
		}
	}
}

func TestMerkleCheckOfAllLengthsAndIndices(t *testing.T) {
	held, not := 0, 0
	for n := 1; n <= impl.LeafMax; n++ {
		list := letters(n)
		root := mustRoot(t, list)
		for i, leaf := range list {
			proof := mustProof(t, list, i)
			for otherN := -2; otherN <= 2*impl.LeafMax+2; otherN++ {
				for otherI := -2; otherI <= otherN+1; otherI++ {
					got := impl.MerkleCheck(root, otherN, otherI, leaf, proof)
					if want := treeHolds(root, otherN, otherI, leaf, proof); got != want {
						t.Fatalf("MerkleCheck of the proof for index %d of %d leaves is %t as one for index %d of %d", i, n, got, otherI, otherN)
					}
					if got {
						held++
					} else {
						not++
					}
				}
			}
		}
	}
	if held < 528 || not < 100000 {
		t.Errorf("MerkleCheck holds %d times and does not %d times", held, not)
	}
}

func TestMerkleCheckRefusesFarLengthsAndIndices(t *testing.T) {
	list := letters(6)
	root, proof := mustRoot(t, list), mustProof(t, list, 2)
	for _, far := range []int{math.MinInt, math.MinInt + 2, -1 << 32, -6, -4, -1, 1 << 31, 1<<32 + 2, 1<<32 + 6, math.MaxInt - 1, math.MaxInt} {
		if impl.MerkleCheck(root, far, 2, "c", proof) || impl.MerkleCheck(root, 6, far, "c", proof) || impl.MerkleCheck(root, far, far, "c", proof) {
			t.Errorf("MerkleCheck holds with the length or the index %d", far)
		}
	}
}

func TestMerkleCheckOfWrongProofs(t *testing.T) {
	for n := 1; n <= impl.LeafMax; n++ {
		list := letters(n)
		root := mustRoot(t, list)
		for i, leaf := range list {
			proof := mustProof(t, list, i)
			for _, wrong := range wrongProofs(proof) {
				if got := impl.MerkleCheck(root, n, i, leaf, wrong); got != treeHolds(root, n, i, leaf, wrong) || got {
					t.Errorf("MerkleCheck of %d leaves and index %d is %t of the proof %d instead of %d", n, i, got, wrong, proof)
				}
			}
		}
	}
}

// wrongProofs returns what is left of a proof if it is a little shorter or longer, or has another element or another order.
func wrongProofs(proof []int) [][]int {
	list := [][]int{append([]int{0}, proof...), append([]int{-1}, proof...)}
	for _, d := range []int{0, 7, -1, impl.NumTop, impl.NumTop + 1} {
		list = append(list, append(slices.Clone(proof), d))
	}
	if len(proof) > 0 {
		list = append(list, proof[1:], proof[:len(proof)-1], append(slices.Clone(proof), proof...))
	}
	for at := range proof {
		for _, d := range append(slices.Clone(noDigests), proof[at]+impl.DigestMod, proof[at]-impl.DigestMod, proof[at]^1, proof[at]^1<<31) {
			other := slices.Clone(proof)
			other[at] = d
			list = append(list, other)
		}
	}
	if len(proof) > 1 {
		back := slices.Clone(proof)
		slices.Reverse(back)
		list = append(list, back)
	}
	return list
}

func TestMerkleCheckRefusesElementsThatAreNoDigests(t *testing.T) {
	for n := 2; n <= impl.LeafMax; n++ {
		list := letters(n)
		for i, leaf := range list {
			proof := mustProof(t, list, i)
			for at := range proof {
				for _, no := range noDigests {
					wrong := slices.Clone(proof)
					wrong[at] = no
					for _, root := range []int{mustRoot(t, list), 0, -1, rootWithout(n, i, leaf, wrong)} {
						if impl.MerkleCheck(root, n, i, leaf, wrong) {
							t.Errorf("MerkleCheck(%d, %d, %d, %q, %d) holds", root, n, i, leaf, wrong)
						}
					}
				}
			}
		}
	}
}

// rootWithout is what the root comes to if elements of the proof that are no digests are left out of the strings.
func rootWithout(n int, i int, leaf string, proof []int) int {
	d := impl.Digest("\x00" + leaf)
	for ; n > 1; n = (n + 1) / 2 {
		if i^1 < n {
			below, beside := impl.DigestBytes(d), impl.DigestBytes(proof[0])
			if i%2 == 1 {
				below, beside = beside, below
			}
			d = impl.Digest("\x01" + below + beside)
			proof = proof[1:]
		}
		i /= 2
	}
	return d
}

func TestMerkleCheckTakesNoNodeForALeaf(t *testing.T) {
	list := letters(2)
	below := nodeString(digestOf("\x00a"), digestOf("\x00b"))
	root := mustRoot(t, list)
	if impl.MerkleCheck(root, 1, 0, below[1:], nil) || impl.MerkleCheck(root, 1, 0, below, nil) {
		t.Errorf("MerkleCheck takes the string of a node for a leaf")
	}
}

func TestP18TwoLeavesWithOneProofMeet(t *testing.T) {
	// The leaves have the same digest.
	a, b := meetingLeaves(t)
	for n := 1; n <= impl.LeafMax; n++ {
		for i := range n {
			list := numbered(n)
			list[i] = a
			twoLeavesMeet(t, list, i, b)
		}
	}
	// The leaves have different digests, and the strings above them the same one.
	for i := range 2 {
		a, b := meetingWithin(t, i)
		for n := 2; n <= impl.LeafMax; n++ {
			for at := 0; at+1 < n; at += 2 {
				list := letters(n)
				list[at], list[at+1] = "same", "same"
				list[at+i] = a
				twoLeavesMeet(t, list, at+i, b)
			}
		}
	}
}

// meetingWithin returns two leaves with different digests, such that the lists of them and the leaf "same", the index of the first one being i, have the same root.
func meetingWithin(t *testing.T, i int) (string, string) {
	t.Helper()
	same := impl.Digest("\x00same")
	a, b := meetingBy(t, func(n int) string {
		path, _ := treePath(2, i, strconv.Itoa(n), []int{same})
		return path[1]
	})
	if impl.Digest("\x00"+strconv.Itoa(a)) == impl.Digest("\x00"+strconv.Itoa(b)) {
		t.Fatalf("the leaves %d and %d have the same digest", a, b)
	}
	return strconv.Itoa(a), strconv.Itoa(b)
}

// twoLeavesMeet checks promise 18 of a leaf of a list and another leaf.
func twoLeavesMeet(t *testing.T, list []string, i int, leaf string) {
	t.Helper()
	n, root, proof := len(list), mustRoot(t, list), mustProof(t, list, i)
	if !impl.MerkleCheck(root, n, i, list[i], proof) || !impl.MerkleCheck(root, n, i, leaf, proof) {
		t.Errorf("MerkleCheck does not hold of %q and %q at index %d of %q", list[i], leaf, i, list)
	}
	one, _ := treePath(n, i, list[i], proof)
	other, _ := treePath(n, i, leaf, proof)
	if !impl.DigestsMeet(append(one, other...)) {
		t.Errorf("no strings on the ways of %q and %q at index %d of %q meet", list[i], leaf, i, list)
	}
	computed, there, ok := impl.MerkleCollision(list, i, leaf, proof)
	if !ok || computed == there || impl.Digest(computed) != impl.Digest(there) || !slices.Contains(other, computed) || !slices.Contains(one, there) {
		t.Errorf("MerkleCollision(%q, %d, %q, ..) is %x, %x, %t", list, i, leaf, computed, there, ok)
	}
}

func TestP18LeavesThatDoNotMeetHaveNotOneProof(t *testing.T) {
	r := rand.New(rand.NewSource(18))
	for n := 1; n <= impl.LeafMax; n++ {
		list := letters(n)
		i := r.Intn(n)
		root, proof := mustRoot(t, list), mustProof(t, list, i)
		for range 300 {
			leaf := strconv.Itoa(r.Int())
			one, _ := treePath(n, i, list[i], proof)
			other, _ := treePath(n, i, leaf, proof)
			if impl.MerkleCheck(root, n, i, leaf, proof) && !impl.DigestsMeet(append(one, other...)) {
				t.Errorf("MerkleCheck holds of %q at index %d of %q", leaf, i, list)
			}
		}
	}
}

// otherNode is a list with other leaves from an index on.
func otherNode(list []string, at int, leaves []string) []string {
	other := slices.Clone(list)
	copy(other[at:], leaves)
	return other
}

func TestP19MerkleCollisionAtEveryNode(t *testing.T) {
	for _, size := range []int{1, 2, 3, 4, 5, 8} {
		one, other := meetingTrees(t, size)
		oneTop, otherTop := topString(t, one), topString(t, other)
		seen := 0
		for n := size; n <= impl.LeafMax; n++ {
			for _, node := range nodesOf(n) {
				if node[1] != size {
					continue
				}
				seen++
				list, wrong := otherNode(letters(n), node[0], one), otherNode(letters(n), node[0], other)
				for i := range n {
					proof := mustProof(t, wrong, i)
					if !impl.MerkleCheck(mustRoot(t, list), n, i, wrong[i], proof) {
						t.Fatalf("MerkleCheck does not hold of %q at index %d of %q", wrong[i], i, list)
					}
					computed, there, ok := impl.MerkleCollision(list, i, wrong[i], proof)
					if list[i] == wrong[i] && (ok || computed != "" || there != "") {
						t.Errorf("MerkleCollision(%q, %d, %q, %d) is %x, %x, %t of a right leaf", list, i, wrong[i], proof, computed, there, ok)
					}
					if list[i] != wrong[i] && (!ok || computed != otherTop || there != oneTop) {
						t.Errorf("MerkleCollision(%q, %d, %q, %d) is %x, %x, %t, want %x, %x", list, i, wrong[i], proof, computed, there, ok, otherTop, oneTop)
					}
				}
			}
		}
		if seen < 4 {
			t.Errorf("there are just %d nodes of %d leaves", seen, size)
		}
	}
}

func TestMerkleCollisionIsAtTheFirstNodeFromTheRoot(t *testing.T) {
	// The leaves have the same digest, and so have the strings of the node above them, with other siblings.
	leaf, wrong := meetingLeaves(t)
	for i := range 2 {
		pathOf := func(n int) []string {
			path, _ := treePath(2, i, wrong, []int{impl.Digest("\x00" + strconv.Itoa(n))})
			return path
		}
		a, b := meetingBy(t, func(n int) string { return pathOf(n)[1] })
		list := []string{leaf, leaf}
		list[1-i] = strconv.Itoa(a)
		proof := []int{impl.Digest("\x00" + strconv.Itoa(b))}
		for _, more := range [][]string{nil, {"x"}, {"x", "y"}, {"x", "y", "z"}, letters(30)} {
			whole := slices.Concat(list, more)
			way := slices.Concat(proof, mustProof(t, whole, i)[1:])
			computed, there, ok := impl.MerkleCollision(whole, i, wrong, way)
			if !ok || computed != pathOf(b)[1] || there != pathOf(a)[1] {
				t.Errorf("MerkleCollision(%q, %d, %q, %d) is %x, %x, %t, want %x, %x", whole, i, wrong, way, computed, there, ok, pathOf(b)[1], pathOf(a)[1])
			}
			// The right leaf with this proof is no collision of the leaf, though the proof is another one and is accepted.
			if !impl.MerkleCheck(mustRoot(t, whole), len(whole), i, leaf, way) {
				t.Errorf("MerkleCheck does not hold of %q at index %d of %q", leaf, i, whole)
			}
			if computed, there, ok := impl.MerkleCollision(whole, i, leaf, way); ok || computed != "" || there != "" {
				t.Errorf("MerkleCollision(%q, %d, %q, %d) is %x, %x, %t of a right leaf", whole, i, leaf, way, computed, there, ok)
			}
			// With the right proof just the leaves differ.
			right := mustProof(t, whole, i)
			if computed, there, ok := impl.MerkleCollision(whole, i, wrong, right); !ok || computed != "\x00"+wrong || there != "\x00"+leaf {
				t.Errorf("MerkleCollision(%q, %d, %q, %d) is %x, %x, %t", whole, i, wrong, right, computed, there, ok)
			}
		}
	}
}

func TestMerkleCollisionIsFalseOtherwise(t *testing.T) {
	refuse := func(list []string, i int, leaf string, proof []int) {
		t.Helper()
		if computed, there, ok := impl.MerkleCollision(list, i, leaf, proof); ok || computed != "" || there != "" {
			t.Errorf("MerkleCollision(%q, %d, %q, %d) is %x, %x, %t", list, i, leaf, proof, computed, there, ok)
		}
	}
	leaf, wrong := meetingLeaves(t)
	for n := 1; n <= impl.LeafMax; n++ {
		for i := range n {
			list := letters(n)
			list[i] = leaf
			proof := mustProof(t, list, i)
			refuse(list, i, leaf, proof)
			refuse(list, i, "no leaf", proof)
			refuse(list, i, "", proof)
			for _, other := range wrongProofs(proof) {
				refuse(list, i, wrong, other)
			}
			for _, at := range []int{-1, n, n + 1, -n, math.MinInt, math.MaxInt} {
				refuse(list, at, wrong, proof)
			}
			if n > 1 {
				refuse(list, (i+1)%n, wrong, proof)
			}
		}
	}
	refuse(nil, 0, wrong, nil)
	refuse([]string{}, 0, wrong, []int{})
	refuse([]string{}, -1, wrong, nil)
	for _, list := range tooLong() {
		list[0] = leaf
		refuse(list, 0, wrong, treeProof(list, 0))
	}
}

func TestMerklePeaksTellsTheNumbers(t *testing.T) {
	for _, c := range []struct {
		n    int
		want []int
	}{
		{0, nil},
		{1, []int{2243718458}},
		{2, []int{1665731118}},
		{3, []int{1665731118, 1878698084}},
		{5, []int{3100104257, 1642534010}},
		{6, []int{3100104257, 277194730}},
		{7, []int{3100104257, 277194730, 3524304626}},
		{11, []int{1165629587, 4206600120, 543571922}},
		{31, []int{2525870151, 521240354, 1590688016, 2355553402, 2370008466}},
		{32, []int{4138913608}},
	} {
		if got, ok := impl.MerklePeaks(letters(c.n)); !ok || !slices.Equal(got, c.want) {
			t.Errorf("MerklePeaks of %d leaves is %d, %t, want %d", c.n, got, ok, c.want)
		}
	}
}

func TestP20MerklePeaksHasAPeakForEachDigit(t *testing.T) {
	for _, list := range append(someTrees(), nil, []string{}) {
		got, ok := impl.MerklePeaks(list)
		if want := treePeaks(list); !ok || !slices.Equal(got, want) || len(got) != bits.OnesCount(uint(len(list))) {
			t.Errorf("MerklePeaks(%q) is %d, %t, want %d", list, got, ok, want)
		}
	}
}

func TestMerklePeaksRefusesTooManyLeaves(t *testing.T) {
	for _, list := range tooLong() {
		if peaks, ok := impl.MerklePeaks(list); ok || len(peaks) != 0 {
			t.Errorf("MerklePeaks of %d leaves is %d, %t", len(list), peaks, ok)
		}
	}
}

func TestP21PeaksAddOfMerklePeaks(t *testing.T) {
	for n := range impl.LeafMax {
		for _, list := range treesOf(n) {
			for _, leaf := range []string{"", "a", "\x00", "another leaf", strings.Repeat("l", 3000)} {
				got, ok := impl.PeaksAdd(n, mustPeaks(t, list), leaf)
				if want := mustPeaks(t, append(slices.Clone(list), leaf)); !ok || !slices.Equal(got, want) {
					t.Errorf("PeaksAdd of the peaks of %q and %q is %d, %t, want %d", list, leaf, got, ok, want)
				}
			}
		}
	}
}

func TestP23PeaksGrowLeafByLeaf(t *testing.T) {
	for _, list := range treesOf(impl.LeafMax) {
		var peaks []int
		for n, leaf := range list {
			added, ok := impl.PeaksAdd(n, peaks, leaf)
			if !ok {
				t.Fatalf("PeaksAdd of %d leaves is false", n)
			}
			if want := treePeaks(list[:n+1]); !slices.Equal(added, want) || !slices.Equal(added, mustPeaks(t, list[:n+1])) {
				t.Fatalf("PeaksAdd of %d leaves is %d, want %d", n, added, want)
			}
			peaks = added
		}
		if added, ok := impl.PeaksAdd(impl.LeafMax, peaks, "a"); ok || len(added) != 0 {
			t.Errorf("PeaksAdd of LeafMax leaves is %d, %t", added, ok)
		}
	}
}

func TestPeaksAddOfOtherPeaks(t *testing.T) {
	// Peaks need not be those of a list.
	leaf := impl.Digest("\x00x")
	for _, c := range []struct {
		n           int
		peaks, want []int
	}{
		{0, nil, []int{leaf}},
		{1, []int{5}, []int{impl.DigestPair(5, leaf)}},
		{2, []int{impl.NumTop}, []int{impl.NumTop, leaf}},
		{3, []int{6, 7}, []int{impl.DigestPair(6, impl.DigestPair(7, leaf))}},
		{5, []int{6, 0}, []int{6, impl.DigestPair(0, leaf)}},
		{11, []int{1, 2, 3}, []int{1, impl.DigestPair(2, impl.DigestPair(3, leaf))}},
		{16, []int{9}, []int{9, leaf}},
		{30, []int{1, 2, 3, 4}, []int{1, 2, 3, 4, leaf}},
		{31, []int{1, 2, 3, 4, 5}, []int{impl.DigestPair(1, impl.DigestPair(2, impl.DigestPair(3, impl.DigestPair(4, impl.DigestPair(5, leaf)))))}},
	} {
		if got, ok := impl.PeaksAdd(c.n, c.peaks, "x"); !ok || !slices.Equal(got, c.want) {
			t.Errorf("PeaksAdd(%d, %d, x) is %d, %t, want %d", c.n, c.peaks, got, ok, c.want)
		}
	}
}

func TestPeaksAddRefusesWhatIsNotValid(t *testing.T) {
	refuse := func(n int, peaks []int) {
		t.Helper()
		if added, ok := impl.PeaksAdd(n, peaks, "x"); ok || len(added) != 0 {
			t.Errorf("PeaksAdd(%d, %d, x) is %d, %t", n, peaks, added, ok)
		}
	}
	for n := range impl.LeafMax {
		size := bits.OnesCount(uint(n))
		for other := range 40 {
			if other != size {
				refuse(n, make([]int, other))
			}
		}
		for at := range size {
			for _, no := range noDigests {
				peaks := make([]int, size)
				peaks[at] = no
				refuse(n, peaks)
			}
		}
	}
	for _, n := range []int{-1, -2, -impl.LeafMax, math.MinInt, impl.LeafMax, impl.LeafMax + 1, 2 * impl.LeafMax, 1 << 31, math.MaxInt} {
		for size := range 70 {
			refuse(n, make([]int, size))
		}
	}
}

func TestPeaksRootTellsTheNumbers(t *testing.T) {
	top := impl.NumTop
	for _, c := range []struct {
		peaks []int
		want  int
	}{
		{[]int{0, 0}, 1880520974},
		{[]int{1, 2}, 920205083},
		{[]int{2, 1}, 3589668165},
		{[]int{1, 2, 3}, 1423241209},
		{[]int{1, 2, 3, 4}, 1598306393},
		{[]int{1, 2, 3, 4, 5}, 1746735431},
		{[]int{1, 2, 3, 4, 5, 6}, 353696840},
		{[]int{top, top, top, top, top, top}, 2293172677},
		{[]int{0, 0, 0, 0, 0, 0}, 3509337333},
	} {
		if got, ok := impl.PeaksRoot(c.peaks); !ok || got != c.want {
			t.Errorf("PeaksRoot(%d) is %d, %t, want %d", c.peaks, got, ok, c.want)
		}
	}
}

func TestP22PeaksRootOfOnePeak(t *testing.T) {
	for _, d := range someDigests() {
		if root, ok := impl.PeaksRoot([]int{d}); !ok || root != d {
			t.Errorf("PeaksRoot of %d is %d, %t", d, root, ok)
		}
	}
}

func TestPeaksRootOfManyPeaks(t *testing.T) {
	list := someDigests()
	for size := 2; size <= 6; size++ {
		for at := range len(list) - size {
			peaks := list[at : at+size]
			last := size - 1
			rest, _ := impl.PeaksRoot(peaks[1:])
			ends, _ := impl.PeaksRoot(append(slices.Clone(peaks[:last-1]), impl.DigestPair(peaks[last-1], peaks[last])))
			if root, ok := impl.PeaksRoot(peaks); !ok || root != impl.DigestPair(peaks[0], rest) || root != ends {
				t.Errorf("PeaksRoot(%d) is %d, %t, want %d", peaks, root, ok, ends)
			}
		}
	}
}

func TestPeaksRootRefusesWhatIsNotValid(t *testing.T) {
	lists := [][]int{nil, {}, {1, 2, 3, 4, 5, 6, 7}, make([]int, 7), make([]int, 8), make([]int, 100)}
	for size := 1; size <= 6; size++ {
		for at := range size {
			for _, no := range noDigests {
				peaks := make([]int, size)
				peaks[at] = no
				lists = append(lists, peaks)
			}
		}
	}
	for _, peaks := range lists {
		if root, ok := impl.PeaksRoot(peaks); ok || root != 0 {
			t.Errorf("PeaksRoot(%d) is %d, %t", peaks, root, ok)
		}
	}
}

func TestP24ListsWithOneRootAreACollision(t *testing.T) {
	for _, size := range []int{1, 2, 3, 6, 8} {
		one, other := meetingTrees(t, size)
		for _, before := range []int{0, 8, 16, 24} {
			list, second := slices.Concat(letters(before), one), slices.Concat(letters(before), other)
			if mustRoot(t, list) != mustRoot(t, second) {
				t.Fatalf("the roots of %q and %q differ", list, second)
			}
			for i := range list {
				if list[i] == second[i] {
					continue
				}
				a, b, ok := impl.MerkleCollision(list, i, second[i], mustProof(t, second, i))
				c, d, also := impl.MerkleCollision(second, i, list[i], mustProof(t, list, i))
				if !ok || !also || a == b || impl.Digest(a) != impl.Digest(b) || a != d || b != c {
					t.Errorf("the collisions of %q and %q at index %d are %x, %x, %t and %x, %x, %t", list, second, i, a, b, ok, c, d, also)
				}
			}
		}
	}
}

func TestMerkleArgumentsStayAsTheyAre(t *testing.T) {
	leaf, wrong := meetingLeaves(t)
	behind := append(letters(7), "behind", "behind")
	behind[2] = leaf
	list, before := behind[:7], slices.Clone(behind)
	proofBehind := append(mustProof(t, list, 2), 8, 9)
	proof, proofBefore := proofBehind[:3], slices.Clone(proofBehind)
	peaksBehind := append(mustPeaks(t, list), 8, 9)
	peaks, peaksBefore := peaksBehind[:3], slices.Clone(peaksBehind)
	mustRoot(t, list)
	mustProof(t, list, 6)
	mustPeaks(t, list)
	if !impl.MerkleCheck(mustRoot(t, list), 7, 2, wrong, proof) {
		t.Errorf("MerkleCheck of a leaf that meets is false")
	}
	if _, _, ok := impl.MerkleCollision(list, 2, wrong, proof); !ok {
		t.Errorf("MerkleCollision of a leaf that meets is false")
	}
	impl.PeaksRoot(peaks)
	impl.PeaksAdd(7, peaks, "x")
	impl.PeaksAdd(14, peaks, "x")
	impl.PeaksAdd(13, peaks, "x")
	if !slices.Equal(behind, before) || !slices.Equal(proofBehind, proofBefore) || !slices.Equal(peaksBehind, peaksBefore) {
		t.Errorf("arguments have changed to %q, %d and %d", behind, proofBehind, peaksBehind)
	}
}

func TestMerkleResultsAreNewMemory(t *testing.T) {
	list := letters(11)
	for _, ask := range []func() []int{
		func() []int { return mustProof(t, list, 4) },
		func() []int { return mustPeaks(t, list) },
	} {
		first, want := ask(), ask()
		for i := range first {
			first[i] = -1
		}
		if !slices.Equal(ask(), want) {
			t.Errorf("a result has changed with an earlier one")
		}
	}
}

func TestPeaksAddSharesNoMemory(t *testing.T) {
	for n := range impl.LeafMax {
		behind := make([]int, 10)
		added, ok := impl.PeaksAdd(n, behind[:bits.OnesCount(uint(n))], "x")
		if !ok {
			t.Fatalf("PeaksAdd of %d leaves is false", n)
		}
		for i := range added {
			added[i] = -1
		}
		if !slices.Equal(behind, make([]int, 10)) {
			t.Errorf("PeaksAdd of %d leaves shares the memory of its peaks: %d", n, behind)
		}
	}
}
