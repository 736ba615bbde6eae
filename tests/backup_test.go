package tests

import (
	"math"
	"math/big"
	"math/rand"
	"slices"
	"testing"

	"loop.example/workchain/impl"
)

// lastScalar is the greatest scalar.
const lastScalar = impl.GroupOrder - 1

// noCounts are numbers of shares that a secret cannot be kept in.
var noCounts = []int{0, -1, -2, -impl.PartMax, math.MinInt, impl.PartMax + 1, impl.PartMax + 2, 2 * impl.PartMax, impl.GroupOrder + 1, math.MaxInt}

// somePolynomials returns polynomials of n coefficients: the least and the greatest scalars, at the edges of the list and all over it, and others.
func somePolynomials(n int) [][]int {
	lists := [][]int{make([]int, n), slices.Repeat([]int{1}, n), slices.Repeat([]int{lastScalar}, n)}
	for i := range n {
		for _, c := range []int{1, lastScalar} {
			alone := make([]int, n)
			alone[i] = c
			lists = append(lists, alone)
		}
		missing := slices.Clone(someScalars()[10 : 10+n])
		missing[i] = 0
		lists = append(lists, missing)
	}
	scalars := someScalars()
	for i := range 8 {
		lists = append(lists, scalars[i*n:i*n+n])
	}
	return lists
}

// polynomialValue is the value of a polynomial at x modulo GroupOrder: all its terms are reckoned as whole numbers of any size and added up.
func polynomialValue(polynomial []int, x int) int {
	sum := new(big.Int)
	for i, c := range polynomial {
		term := new(big.Int).Exp(big.NewInt(int64(x)), big.NewInt(int64(i)), nil)
		sum.Add(sum, term.Mul(term, big.NewInt(int64(c))))
	}
	return int(sum.Mod(sum, big.NewInt(impl.GroupOrder)).Int64())
}

// pointsAt are the points of a polynomial with the given X.
func pointsAt(polynomial []int, xs []int) []impl.Part {
	list := make([]impl.Part, len(xs))
	for i, x := range xs {
		list[i] = impl.Part{X: x, Y: polynomialValue(polynomial, x)}
	}
	return list
}

// sharesOf are shares whose X and Y follow one another.
func sharesOf(numbers ...int) []impl.Part {
	var list []impl.Part
	for pair := range slices.Chunk(numbers, 2) {
		list = append(list, impl.Part{X: pair[0], Y: pair[1]})
	}
	return list
}

// polynomialThrough is the polynomial that has all points, with as many coefficients as there are points. Its coefficients solve one equation for each point; one coefficient after the other is eliminated from all equations but one.
func polynomialThrough(points []impl.Part) []int {
	mod := big.NewInt(impl.GroupOrder)
	n := len(points)
	rows := make([][]*big.Int, n)
	for i, p := range points {
		for power := range n {
			x := new(big.Int).Exp(big.NewInt(int64(p.X)), big.NewInt(int64(power)), mod)
			rows[i] = append(rows[i], x)
		}
		rows[i] = append(rows[i], big.NewInt(int64(p.Y)))
	}
	for i := range n {
		for other := i; rows[i][i].Sign() == 0; other++ {
			rows[i], rows[other] = rows[other], rows[i]
		}
		inverse := new(big.Int).ModInverse(rows[i][i], mod)
		for at := range rows[i] {
			rows[i][at].Mod(rows[i][at].Mul(rows[i][at], inverse), mod)
		}
		for other := range n {
			if other == i {
				continue
			}
			factor := new(big.Int).Set(rows[other][i])
			for at := range rows[other] {
				product := new(big.Int).Mul(factor, rows[i][at])
				rows[other][at].Mod(rows[other][at].Sub(rows[other][at], product), mod)
			}
		}
	}
	polynomial := make([]int, n)
	for i := range n {
		polynomial[i] = int(rows[i][n].Int64())
	}
	return polynomial
}

// someXs returns lists of n different X: one after the other, far apart, and at both edges.
func someXs(n int) [][]int {
	counted, last, far := make([]int, n), make([]int, n), make([]int, n)
	for i := range n {
		counted[i] = i + 1
		last[i] = impl.GroupOrder - 1 - i
		far[i] = 1 << (29 - 4*i)
		if i%2 == 1 {
			far[i] = impl.GroupOrder - 3*i
		}
	}
	scalars := someScalars()
	return [][]int{counted, last, far, scalars[:n], scalars[50 : 50+n], scalars[150 : 150+n]}
}

// someShares returns valid lists of n shares, whose X are of all kinds, and whose Y are any scalars.
func someShares(n int) [][]impl.Part {
	r := rand.New(rand.NewSource(8))
	var lists [][]impl.Part
	for _, xs := range someXs(n) {
		for _, ys := range [][]int{make([]int, n), slices.Repeat([]int{lastScalar}, n), nil, nil} {
			list := make([]impl.Part, n)
			for i, x := range xs {
				list[i] = impl.Part{X: x, Y: r.Intn(impl.GroupOrder)}
				if ys != nil {
					list[i].Y = ys[i]
				}
			}
			lists = append(lists, list)
		}
	}
	return lists
}

// otherXs are X from 1 to GroupOrder-1 that none of the shares has.
func otherXs(list []impl.Part) []int {
	xs := []int{1, 2, 3, 9, 1000, 123456789, 1 << 29, impl.GroupOrder - 20, impl.GroupOrder - 2, lastScalar}
	return slices.DeleteFunc(xs, func(x int) bool {
		return slices.ContainsFunc(list, func(p impl.Part) bool { return p.X == x })
	})
}

func mustSplit(t *testing.T, polynomial []int, n int) []impl.Part {
	t.Helper()
	list, ok := impl.SplitSecret(polynomial[0], polynomial[1:], n)
	if !ok || len(list) != n {
		t.Fatalf("SplitSecret(%d, %d, %d) is %v, %t", polynomial[0], polynomial[1:], n, list, ok)
	}
	return list
}

func mustJoin(t *testing.T, list []impl.Part) int {
	t.Helper()
	secret, ok := impl.JoinParts(list)
	if !ok {
		t.Fatalf("JoinParts(%v) is false", list)
	}
	return secret
}

func mustPart(t *testing.T, list []impl.Part, x int) impl.Part {
	t.Helper()
	p, ok := impl.PartAt(list, x)
	if !ok {
		t.Fatalf("PartAt(%v, %d) is false", list, x)
	}
	return p
}

func mustHide(t *testing.T, list []impl.Part, x int, secret int) impl.Part {
	t.Helper()
	p, ok := impl.HideParts(list, x, secret)
	if !ok {
		t.Fatalf("HideParts(%v, %d, %d) is false", list, x, secret)
	}
	return p
}

// with is the list of shares with another one behind them, in new memory.
func with(list []impl.Part, p impl.Part) []impl.Part {
	return append(slices.Clone(list), p)
}

// refusesToSplit tells where SplitSecret is not false and no shares.
func refusesToSplit(t *testing.T, secret int, coefs []int, n int) {
	t.Helper()
	if list, ok := impl.SplitSecret(secret, coefs, n); ok || len(list) != 0 {
		t.Errorf("SplitSecret(%d, %d, %d) is %v, %t", secret, coefs, n, list, ok)
	}
}

// refusesPartAt tells where PartAt is not false and no share.
func refusesPartAt(t *testing.T, list []impl.Part, x int) {
	t.Helper()
	if p, ok := impl.PartAt(list, x); ok || p != (impl.Part{}) {
		t.Errorf("PartAt(%v, %d) is %v, %t", list, x, p, ok)
	}
}

// refusesToHide tells where HideParts is not false and no share.
func refusesToHide(t *testing.T, list []impl.Part, x int, secret int) {
	t.Helper()
	if p, ok := impl.HideParts(list, x, secret); ok || p != (impl.Part{}) {
		t.Errorf("HideParts(%v, %d, %d) is %v, %t", list, x, secret, p, ok)
	}
}

// refusesShares tells where JoinParts, PartAt or HideParts takes a list of shares that is not valid.
func refusesShares(t *testing.T, list []impl.Part) {
	t.Helper()
	if secret, ok := impl.JoinParts(list); ok || secret != 0 {
		t.Errorf("JoinParts(%v) is %d, %t", list, secret, ok)
	}
	xs := otherXs(list)
	for _, p := range list {
		xs = append(xs, p.X)
	}
	for _, x := range xs {
		refusesPartAt(t, list, x)
	}
	for _, x := range otherXs(list) {
		for _, secret := range []int{0, 7, lastScalar} {
			refusesToHide(t, list, x, secret)
		}
	}
}

func TestPartMaxIsEight(t *testing.T) {
	if impl.PartMax != 8 {
		t.Errorf("PartMax is %d", impl.PartMax)
	}
}

func TestSplitSecretTellsTheNumbers(t *testing.T) {
	for _, c := range []struct {
		secret int
		coefs  []int
		want   []int
	}{
		{7, nil, []int{7}},
		{0, []int{}, []int{0}},
		{lastScalar, nil, []int{1073741788}},
		{7, nil, []int{7, 7}},
		{7, []int{3}, []int{10, 13}},
		{7, []int{3}, []int{10, 13, 16}},
		{5, []int{lastScalar}, []int{4, 3}},
		{0, []int{1}, []int{1, 2, 3, 4, 5, 6, 7, 8}},
		{1, []int{2, 3}, []int{6, 17, 34}},
		{123456789, []int{987654321, 536870895}, []int{574240216, 1025023644, 402065284, 852848714, 229890356, 680673788, 57715432, 508498866}},
		{11, nil, []int{11, 11, 11, 11, 11, 11, 11, 11}},
		{1, []int{1, 1, 1, 1, 1, 1, 1}, []int{8, 255, 3280, 21845, 97656, 335923, 960800, 2396745}},
		{lastScalar, slices.Repeat([]int{lastScalar}, 7), []int{1073741781, 1073741534, 1073738509, 1073719944, 1073644133, 1073405866, 1072780989, 1071345044}},
		{0, make([]int, 7), make([]int, 8)},
		{42, []int{0, 0, 0, 0, 0, 0, 1}, []int{43, 170, 2229, 16426, 78167, 279978, 823585, 2097194}},
		{42, []int{5, 0}, []int{47, 52, 57, 62}},
		{1000000007, []int{1, 2, 3, 4, 5, 6, 7}, []int{1000000035, 1000001545, 1000021331, 1000145643, 1000659187, 1002284285, 1006565475, 1016434831}},
		{0, []int{0, lastScalar}, []int{1073741788, 1073741785, 1073741780, 1073741773, 1073741764}},
	} {
		list, ok := impl.SplitSecret(c.secret, c.coefs, len(c.want))
		want := make([]impl.Part, len(c.want))
		for i, y := range c.want {
			want[i] = impl.Part{X: i + 1, Y: y}
		}
		if !ok || !slices.Equal(list, want) {
			t.Errorf("SplitSecret(%d, %d, %d) is %v, %t, want %v", c.secret, c.coefs, len(c.want), list, ok, want)
		}
	}
}

func TestSplitSecretIsThePolynomial(t *testing.T) {
	for n := 1; n <= impl.PartMax; n++ {
		for count := 1; count <= n; count++ {
			for _, polynomial := range somePolynomials(count) {
				want := pointsAt(polynomial, someXs(n)[0])
				if got := mustSplit(t, polynomial, n); !slices.Equal(got, want) {
					t.Errorf("SplitSecret of %d in %d shares is %v, want %v", polynomial, n, got, want)
				}
			}
		}
	}
}

func TestSplitSecretAloneHasTheSameYEverywhere(t *testing.T) {
	for _, secret := range append(someScalars()[:20], 0, lastScalar) {
		for n := 1; n <= impl.PartMax; n++ {
			for i, p := range mustSplit(t, []int{secret}, n) {
				if p != (impl.Part{X: i + 1, Y: secret}) {
					t.Errorf("SplitSecret of %d alone in %d shares has %v at %d", secret, n, p, i)
				}
			}
		}
	}
}

func TestSplitSecretWithLastCoefficientsOf0(t *testing.T) {
	for count := 1; count < impl.PartMax; count++ {
		for _, polynomial := range somePolynomials(count) {
			want := mustSplit(t, polynomial, impl.PartMax)
			for more := 1; count+more <= impl.PartMax; more++ {
				longer := slices.Concat(polynomial, make([]int, more))
				if got := mustSplit(t, longer, impl.PartMax); !slices.Equal(got, want) {
					t.Errorf("SplitSecret of %d is %v, want %v", longer, got, want)
				}
			}
		}
	}
}

func TestSplitSecretRefusesOtherNumbersOfShares(t *testing.T) {
	for _, n := range noCounts {
		for count := 1; count <= impl.PartMax+2; count++ {
			refusesToSplit(t, 7, make([]int, count-1), n)
			refusesToSplit(t, 0, someScalars()[:count-1], n)
		}
		refusesToSplit(t, 7, nil, n)
	}
}

func TestSplitSecretRefusesTooManyCoefficients(t *testing.T) {
	for n := 1; n <= impl.PartMax; n++ {
		mustSplit(t, someScalars()[:n], n)
		for _, more := range []int{1, 2, 3, 8, 100} {
			refusesToSplit(t, 7, someScalars()[:n-1+more], n)
			refusesToSplit(t, 0, make([]int, n-1+more), n)
		}
	}
}

func TestSplitSecretRefusesWhatIsNoScalar(t *testing.T) {
	for n := 1; n <= impl.PartMax; n++ {
		for count := 1; count <= n; count++ {
			for i := range count {
				for _, no := range noScalars {
					polynomial := slices.Clone(someScalars()[:count])
					polynomial[i] = no
					refusesToSplit(t, polynomial[0], polynomial[1:], n)
				}
			}
		}
	}
}

func TestP45JoinPartsOfSplitSecret(t *testing.T) {
	for n := 1; n <= impl.PartMax; n++ {
		for count := 1; count <= n; count++ {
			for _, polynomial := range somePolynomials(count) {
				if got := mustJoin(t, mustSplit(t, polynomial, n)); got != polynomial[0] {
					t.Errorf("JoinParts of SplitSecret of %d in %d shares is %d", polynomial, n, got)
				}
			}
		}
	}
}

func TestP46JoinPartsInTheOppositeOrder(t *testing.T) {
	for n := 1; n <= impl.PartMax; n++ {
		for _, list := range someShares(n) {
			want := mustJoin(t, list)
			opposite := slices.Clone(list)
			slices.Reverse(opposite)
			if got := mustJoin(t, opposite); got != want {
				t.Errorf("JoinParts(%v) is %d, and in the opposite order %d", list, want, got)
			}
		}
		for _, polynomial := range somePolynomials(n) {
			list := mustSplit(t, polynomial, n)
			slices.Reverse(list)
			if got := mustJoin(t, list); got != polynomial[0] {
				t.Errorf("JoinParts of SplitSecret of %d in the opposite order is %d", polynomial, got)
			}
		}
	}
}

func TestJoinPartsInAnyOrder(t *testing.T) {
	r := rand.New(rand.NewSource(46))
	for n := 2; n <= impl.PartMax; n++ {
		for _, list := range someShares(n) {
			want := mustJoin(t, list)
			mixed := slices.Clone(list)
			for range 20 {
				r.Shuffle(n, func(i int, j int) { mixed[i], mixed[j] = mixed[j], mixed[i] })
				if got := mustJoin(t, mixed); got != want {
					t.Errorf("JoinParts(%v) is %d, want %d", mixed, got, want)
				}
			}
		}
	}
}

func TestJoinPartsTellsTheNumbers(t *testing.T) {
	for _, c := range []struct {
		list []impl.Part
		want int
	}{
		{sharesOf(1, 0), 0},
		{sharesOf(1, 1073741788), 1073741788},
		{sharesOf(1073741788, 12345), 12345},
		{sharesOf(5, 77), 77},
		{sharesOf(1, 10, 2, 13), 7},
		{sharesOf(2, 13, 1, 10), 7},
		{sharesOf(1, 0, 2, 1), 1073741788},
		{sharesOf(1, 1073741788, 2, 0), 1073741787},
		{sharesOf(1073741788, 1, 1, 2), 536870896},
		{sharesOf(1073741788, 5, 1073741787, 6), 4},
		{sharesOf(1073741788, 0, 1073741787, 1073741788, 1073741786, 1), 4},
		{sharesOf(3, 1, 100, 2, 1000000, 3), 468990361},
		{sharesOf(536870894, 4, 536870895, 9, 1, 16), 5},
		{sharesOf(1, 1, 2, 8, 3, 27, 4, 64), 0},
		{sharesOf(9, 5, 4, 5, 77, 5), 5},
		{sharesOf(1, 1, 2, 2, 3, 4, 4, 8, 5, 16, 6, 32, 7, 64, 8, 128), 0},
		{sharesOf(8, 128, 1, 1, 7, 64, 2, 2, 6, 32, 3, 4, 5, 16, 4, 8), 0},
		{sharesOf(1073741788, 1073741788, 1073741787, 1073741788, 1073741785, 1073741788, 1073741781, 1073741788, 1073741773, 1073741788, 1073741757, 1073741788, 1073741725, 1073741788, 1073741661, 0), 936232391},
		{sharesOf(1048576, 314159265, 271828182, 536870912, 3, 1, 1073741786, 2, 141421356, 0, 577215664, 1073741788, 1000, 161803398, 99, 98), 45514996},
	} {
		if got, ok := impl.JoinParts(c.list); !ok || got != c.want {
			t.Errorf("JoinParts(%v) is %d, %t, want %d", c.list, got, ok, c.want)
		}
	}
}

func TestJoinPartsIsTheValueAt0(t *testing.T) {
	for n := 1; n <= impl.PartMax; n++ {
		for _, list := range someShares(n) {
			want := polynomialThrough(list)[0]
			if got := mustJoin(t, list); got != want {
				t.Errorf("JoinParts(%v) is %d, want %d", list, got, want)
			}
		}
	}
}

func TestJoinPartsOfOneShareIsItsY(t *testing.T) {
	for _, x := range someScalars()[:40] {
		for _, y := range []int{0, 1, 7, 536870895, lastScalar} {
			if got := mustJoin(t, []impl.Part{{X: x, Y: y}}); got != y {
				t.Errorf("JoinParts of (%d, %d) alone is %d", x, y, got)
			}
		}
	}
}

func TestJoinPartsOfALowerDegree(t *testing.T) {
	for n := 2; n <= impl.PartMax; n++ {
		for count := 1; count < n; count++ {
			for _, xs := range someXs(n) {
				for _, polynomial := range somePolynomials(count) {
					list := pointsAt(polynomial, xs)
					if got := mustJoin(t, list); got != polynomial[0] {
						t.Errorf("JoinParts(%v) is %d, want %d", list, got, polynomial[0])
					}
				}
			}
		}
	}
}

func TestSharesOfOtherLengthsAreRefused(t *testing.T) {
	refusesShares(t, nil)
	refusesShares(t, []impl.Part{})
	for _, n := range []int{impl.PartMax + 1, impl.PartMax + 2, 2 * impl.PartMax, 100} {
		// Any nine points of a straight line are on a polynomial of low degree, and are too many nevertheless.
		refusesShares(t, pointsAt([]int{7, 3}, someScalars()[:n]))
		refusesShares(t, pointsAt([]int{7}, someScalars()[100:100+n]))
		refusesShares(t, make([]impl.Part, n))
	}
}

func TestSharesWithAnotherXAreRefused(t *testing.T) {
	for n := 1; n <= impl.PartMax; n++ {
		for i := range n {
			for _, no := range noSecrets {
				list := mustSplit(t, []int{7}, n)
				list[i].X = no
				refusesShares(t, list)
				list[i].Y = 0
				refusesShares(t, list)
			}
		}
	}
}

func TestSharesWithAnotherYAreRefused(t *testing.T) {
	for n := 1; n <= impl.PartMax; n++ {
		for _, xs := range someXs(n)[:3] {
			for i := range n {
				for _, no := range noScalars {
					list := pointsAt([]int{7}, xs)
					list[i].Y = no
					refusesShares(t, list)
				}
			}
		}
	}
}

func TestSharesOfWhichOneHasTheXOfAnotherAreRefused(t *testing.T) {
	for n := 2; n <= impl.PartMax; n++ {
		for _, xs := range someXs(n) {
			for i := range n {
				for j := range n {
					if i == j {
						continue
					}
					list := pointsAt([]int{7, 3}, xs)
					list[j] = list[i]
					refusesShares(t, list)
					list[j].Y = (list[i].Y + 1) % impl.GroupOrder
					refusesShares(t, list)
					list[j].Y = 0
					refusesShares(t, list)
				}
			}
		}
		refusesShares(t, slices.Repeat([]impl.Part{{X: 1, Y: 5}}, n))
		refusesShares(t, slices.Repeat([]impl.Part{{X: lastScalar, Y: lastScalar}}, n))
	}
}

func TestPartAtTellsTheNumbers(t *testing.T) {
	for _, c := range []struct {
		list []impl.Part
		x    int
		want int
	}{
		{sharesOf(1, 10, 2, 13), 1, 10},
		{sharesOf(1, 10, 2, 13), 2, 13},
		{sharesOf(1, 10, 2, 13), 3, 16},
		{sharesOf(1, 10, 2, 13), 1073741788, 4},
		{sharesOf(1, 1073741788), 1073741788, 1073741788},
		{sharesOf(1073741788, 1, 1, 2), 2, 536870897},
		{sharesOf(3, 1, 100, 2, 1000000, 3), 100, 2},
		{sharesOf(3, 1, 100, 2, 1000000, 3), 7, 300469952},
		{sharesOf(1, 1, 2, 8, 3, 27, 4, 64), 5, 125},
		{sharesOf(1, 1, 2, 8, 3, 27, 4, 64), 1000, 1000000000},
		{sharesOf(1, 1, 2, 2, 3, 4, 4, 8, 5, 16, 6, 32, 7, 64, 8, 128), 9, 255},
		{sharesOf(1, 1, 2, 2, 3, 4, 4, 8, 5, 16, 6, 32, 7, 64, 8, 128), 8, 128},
		{sharesOf(1048576, 314159265, 271828182, 536870912, 3, 1, 1073741786, 2, 141421356, 0, 577215664, 1073741788, 1000, 161803398, 99, 98), 1, 379103621},
		{sharesOf(1048576, 314159265, 271828182, 536870912, 3, 1, 1073741786, 2, 141421356, 0, 577215664, 1073741788, 1000, 161803398, 99, 98), 1073741788, 161728080},
		{sharesOf(1048576, 314159265, 271828182, 536870912, 3, 1, 1073741786, 2, 141421356, 0, 577215664, 1073741788, 1000, 161803398, 99, 98), 99, 98},
	} {
		if got, ok := impl.PartAt(c.list, c.x); !ok || got != (impl.Part{X: c.x, Y: c.want}) {
			t.Errorf("PartAt(%v, %d) is %v, %t, want the Y %d", c.list, c.x, got, ok, c.want)
		}
	}
}

func TestPartAtAnXOfTheListIsTheShareItself(t *testing.T) {
	for n := 1; n <= impl.PartMax; n++ {
		for _, list := range someShares(n) {
			for _, p := range list {
				if got := mustPart(t, list, p.X); got != p {
					t.Errorf("PartAt(%v, %d) is %v", list, p.X, got)
				}
			}
		}
	}
}

func TestPartAtIsOnThePolynomial(t *testing.T) {
	for n := 1; n <= impl.PartMax; n++ {
		for _, list := range someShares(n) {
			polynomial := polynomialThrough(list)
			for _, x := range otherXs(list) {
				want := impl.Part{X: x, Y: polynomialValue(polynomial, x)}
				if got := mustPart(t, list, x); got != want {
					t.Errorf("PartAt(%v, %d) is %v, want %v", list, x, got, want)
				}
			}
		}
	}
}

func TestPartAtOfSplitSecretIsTheNextShare(t *testing.T) {
	for count := 1; count <= impl.PartMax; count++ {
		for _, polynomial := range somePolynomials(count) {
			all := mustSplit(t, polynomial, impl.PartMax)
			for _, p := range all {
				if got := mustPart(t, all[:count], p.X); got != p {
					t.Errorf("PartAt of %d shares of %d is %v, want %v", count, polynomial, got, p)
				}
			}
		}
	}
}

func TestP47JoinPartsOfTheSharesAndPartAt(t *testing.T) {
	for n := 1; n < impl.PartMax; n++ {
		for _, list := range someShares(n) {
			want := mustJoin(t, list)
			for _, x := range otherXs(list) {
				more := with(list, mustPart(t, list, x))
				if got := mustJoin(t, more); got != want {
					t.Errorf("JoinParts(%v) is %d, but JoinParts(%v) is %d", list, want, more, got)
				}
			}
			// With the X of one of the shares it is that share, which cannot stand twice.
			refusesShares(t, with(list, mustPart(t, list, list[n/2].X)))
		}
	}
	// Where there is no room, the share is told all the same.
	for _, list := range someShares(impl.PartMax) {
		refusesShares(t, with(list, mustPart(t, list, otherXs(list)[0])))
	}
}

func TestPartAtRefusesAnotherX(t *testing.T) {
	for n := 1; n <= impl.PartMax; n++ {
		for _, list := range someShares(n)[:8] {
			for _, no := range noSecrets {
				refusesPartAt(t, list, no)
			}
		}
	}
}

func TestHidePartsTellsTheNumbers(t *testing.T) {
	for _, c := range []struct {
		list   []impl.Part
		x      int
		secret int
		want   int
	}{
		{sharesOf(1, 0), 2, 0, 0},
		{sharesOf(1, 0), 2, 1, 1073741788},
		{sharesOf(1, 0), 2, 1073741788, 1},
		{sharesOf(5, 77), 1073741788, 77, 77},
		{sharesOf(1, 10, 2, 13), 3, 7, 16},
		{sharesOf(1, 10, 2, 13), 3, 0, 9},
		{sharesOf(1, 10, 2, 13), 3, 1073741788, 8},
		{sharesOf(1, 10, 2, 13), 1073741788, 8, 7},
		{sharesOf(1073741788, 1, 1, 2), 2, 3, 1073741787},
		{sharesOf(3, 1, 100, 2, 1000000, 3), 7, 123456789, 488346684},
		{sharesOf(1, 1, 2, 2, 3, 4, 4, 8, 5, 16, 6, 32, 7, 64), 8, 0, 128},
		{sharesOf(1, 1, 2, 2, 3, 4, 4, 8, 5, 16, 6, 32, 7, 64), 8, 1073741788, 129},
		{sharesOf(1, 1, 2, 2, 3, 4, 4, 8, 5, 16, 6, 32, 7, 64), 1073741788, 0, 1073741785},
		{sharesOf(1048576, 314159265, 271828182, 536870912, 3, 1, 1073741786, 2, 141421356, 0, 577215664, 1073741788, 1000, 161803398), 99, 42, 179478246},
	} {
		if got, ok := impl.HideParts(c.list, c.x, c.secret); !ok || got != (impl.Part{X: c.x, Y: c.want}) {
			t.Errorf("HideParts(%v, %d, %d) is %v, %t, want the Y %d", c.list, c.x, c.secret, got, ok, c.want)
		}
	}
}

func TestP48JoinPartsOfTheSharesAndHideParts(t *testing.T) {
	for n := 1; n < impl.PartMax; n++ {
		for _, list := range someShares(n) {
			for _, x := range otherXs(list) {
				for _, secret := range []int{0, 1, 7, 536870895, 987654321, impl.GroupOrder - 2, lastScalar} {
					more := with(list, mustHide(t, list, x, secret))
					if got := mustJoin(t, more); more[n].X != x || got != secret {
						t.Errorf("JoinParts(%v) is %d, want %d, and the X %d", more, got, secret, x)
					}
				}
			}
		}
	}
}

func TestHidePartsOfTheJoinedSecretIsPartAt(t *testing.T) {
	for n := 1; n < impl.PartMax; n++ {
		for _, list := range someShares(n) {
			secret := mustJoin(t, list)
			for _, x := range otherXs(list) {
				if got, want := mustHide(t, list, x, secret), mustPart(t, list, x); got != want {
					t.Errorf("HideParts(%v, %d, %d) is %v, want %v", list, x, secret, got, want)
				}
			}
		}
	}
}

func TestHidePartsIsTheOnlyShareForItsSecret(t *testing.T) {
	for n := 1; n < impl.PartMax; n++ {
		for _, list := range someShares(n)[:12] {
			x := otherXs(list)[0]
			want := polynomialValue(polynomialThrough(with(list, impl.Part{X: 0, Y: 42})), x)
			p := mustHide(t, list, x, 42)
			if p.Y != want {
				t.Errorf("HideParts(%v, %d, 42) is %v, want the Y %d", list, x, p, want)
			}
			p.Y = (p.Y + 1) % impl.GroupOrder
			if got := mustJoin(t, with(list, p)); got == 42 {
				t.Errorf("JoinParts(%v) is 42 too", with(list, p))
			}
		}
	}
}

func TestHidePartsRefusesPartMaxShares(t *testing.T) {
	for _, list := range someShares(impl.PartMax) {
		for _, x := range otherXs(list) {
			for _, secret := range []int{0, 7, lastScalar, mustJoin(t, list)} {
				refusesToHide(t, list, x, secret)
				mustHide(t, list[1:], x, secret)
			}
		}
	}
}

func TestHidePartsRefusesAnotherX(t *testing.T) {
	for n := 1; n <= impl.PartMax; n++ {
		for _, list := range someShares(n)[:8] {
			for _, no := range noSecrets {
				refusesToHide(t, list, no, 7)
				refusesToHide(t, list, no, 0)
				refusesToHide(t, list, no, mustJoin(t, list))
			}
		}
	}
}

func TestHidePartsRefusesTheXOfAShare(t *testing.T) {
	for n := 1; n <= impl.PartMax; n++ {
		for _, list := range someShares(n) {
			for _, p := range list {
				refusesToHide(t, list, p.X, 7)
				refusesToHide(t, list, p.X, 0)
				refusesToHide(t, list, p.X, mustJoin(t, list))
			}
		}
	}
}

func TestHidePartsRefusesWhatIsNoScalar(t *testing.T) {
	for n := 1; n <= impl.PartMax; n++ {
		for _, list := range someShares(n)[:8] {
			for _, no := range noScalars {
				refusesToHide(t, list, otherXs(list)[0], no)
			}
		}
	}
}

// choicesOf returns all choices of shares out of a list, each as the list of its shares.
func choicesOf(list []impl.Part) [][]impl.Part {
	choices := [][]impl.Part{nil}
	for _, p := range list {
		for _, choice := range choices {
			choices = append(choices, with(choice, p))
		}
	}
	return choices
}

func TestP49JoinPartsOfAnyShares(t *testing.T) {
	for count := 1; count <= impl.PartMax; count++ {
		for _, polynomial := range somePolynomials(count) {
			for _, choice := range choicesOf(mustSplit(t, polynomial, impl.PartMax)) {
				if len(choice) < count {
					continue
				}
				if got := mustJoin(t, choice); got != polynomial[0] {
					t.Errorf("JoinParts(%v) is %d, want %d", choice, got, polynomial[0])
				}
			}
		}
	}
}

func TestP49JoinPartsOfAnySharesOfFewer(t *testing.T) {
	for n := 1; n < impl.PartMax; n++ {
		for count := 1; count <= n; count++ {
			polynomial := someScalars()[count : 2*count]
			for _, choice := range choicesOf(mustSplit(t, polynomial, n)) {
				if len(choice) < count {
					continue
				}
				if got := mustJoin(t, choice); got != polynomial[0] {
					t.Errorf("JoinParts(%v) is %d, want %d", choice, got, polynomial[0])
				}
			}
		}
	}
}

func TestOneShareFewerTellsAnotherSecret(t *testing.T) {
	for count := 2; count <= impl.PartMax; count++ {
		for _, polynomial := range somePolynomials(count) {
			for _, choice := range choicesOf(mustSplit(t, polynomial, impl.PartMax)) {
				if len(choice) != count-1 {
					continue
				}
				// With a last coefficient of 0 one share fewer is enough, and otherwise never.
				same := mustJoin(t, choice) == polynomial[0]
				if same != (polynomial[count-1] == 0) {
					t.Errorf("JoinParts(%v), of %d, is %d", choice, polynomial, mustJoin(t, choice))
				}
			}
		}
	}
}

func TestOneShareFewerMayBelongToAnySecret(t *testing.T) {
	for count := 2; count <= impl.PartMax; count++ {
		polynomial := someScalars()[20 : 20+count]
		all := mustSplit(t, polynomial, impl.PartMax)
		few, last := all[:count-1], all[count-1]
		for _, secret := range []int{0, 1, lastScalar, 123456789} {
			other := with(few, mustHide(t, few, last.X, secret))
			if got := mustJoin(t, other); got != secret || other[count-1] == last {
				t.Errorf("JoinParts(%v) is %d, want %d", other, got, secret)
			}
		}
		if got := mustHide(t, few, last.X, polynomial[0]); got != last {
			t.Errorf("HideParts(%v, %d, %d) is %v, want %v", few, last.X, polynomial[0], got, last)
		}
	}
}

func TestSplitSecretLeavesItsCoefficients(t *testing.T) {
	for _, room := range []int{0, 1, 10} {
		for n := 1; n <= impl.PartMax; n++ {
			for _, last := range []int{5, lastScalar, -1, impl.GroupOrder} {
				coefs := append(slices.Clone(someScalars()[:n-1+room]), last)
				same := slices.Clone(coefs)
				for count := range n + 1 {
					first, _ := impl.SplitSecret(7, coefs[:count], n)
					kept := slices.Clone(first)
					second, _ := impl.SplitSecret(7, coefs[:count], n)
					for i := range first {
						first[i] = impl.Part{X: -1, Y: -1}
					}
					if !slices.Equal(coefs, same) || !slices.Equal(second, kept) {
						t.Errorf("SplitSecret changed its %d coefficients, or shares memory", count)
					}
				}
			}
		}
	}
}

func TestTheSharesStayAsTheyAre(t *testing.T) {
	for _, room := range []int{0, 1, 10} {
		for n := 1; n <= impl.PartMax+1; n++ {
			for _, y := range []int{5, -1, impl.GroupOrder} {
				list := pointsAt([]int{7, 3, 2}, someScalars()[:n+room])
				slices.Reverse(list)
				list[n-1].Y = y
				same := slices.Clone(list)
				impl.JoinParts(list[:n])
				for _, x := range []int{123456789, list[0].X, 0} {
					impl.PartAt(list[:n], x)
					impl.HideParts(list[:n], x, 11)
				}
				if !slices.Equal(list, same) {
					t.Errorf("JoinParts, PartAt or HideParts changed its list of %d, or what is behind it", n)
				}
			}
		}
	}
}
