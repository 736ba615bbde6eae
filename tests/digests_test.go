package tests

import (
	"encoding/binary"
	"math"
	"math/big"
	"math/rand"
	"slices"
	"strings"
	"testing"

	"loop.example/workchain/impl"
)

// noDigests are numbers on both sides of those that are digests.
var noDigests = []int{-1, -2, -impl.NumTop, math.MinInt, impl.NumTop + 1, impl.DigestMod, impl.DigestMod + 5, 1 << 40, math.MaxInt}

// meetings are pairs of different strings with the same digest.
var meetings = [][2]string{{"costarring", "liquid"}, {"declinate", "macallums"}, {"altarage", "zinke"}, {"altarages", "zinkes"}}

// manyBytes is all bytes, forty times.
func manyBytes() string {
	var s strings.Builder
	for i := range 40 * 256 {
		s.WriteByte(byte(i))
	}
	return s.String()
}

// digestOf is the digest of a string, reckoned with whole numbers of any size as the document tells it: each result is divided by DigestMod, and xor is taken digit by digit.
func digestOf(s string) int {
	h := big.NewInt(2166136261)
	mod := big.NewInt(impl.DigestMod)
	times := func(factor int64) {
		h.Mul(h, big.NewInt(factor))
		h.Mod(h, mod)
	}
	fold := func(divisor int64) {
		h.Xor(h, new(big.Int).Div(h, big.NewInt(divisor)))
	}
	for _, b := range []byte(s) {
		h.Xor(h, big.NewInt(int64(b)))
		times(16777619)
	}
	fold(65536)
	times(668265261)
	fold(32768)
	times(374761393)
	fold(65536)
	return int(h.Int64())
}

// someDigests returns digests at the edges of their bytes, and others.
func someDigests() []int {
	list := []int{0, 1, 2, 255, 256, 65535, 65536, 1<<24 - 1, 1 << 24, 1<<31 - 1, 1 << 31, 0x01020304, impl.NumTop - 1, impl.NumTop}
	r := rand.New(rand.NewSource(2))
	for range 300 {
		list = append(list, r.Intn(impl.DigestMod))
	}
	return list
}

func TestDigestTellsTheNumbers(t *testing.T) {
	for _, c := range []struct {
		name, s string
		want    int
	}{
		{"the empty string", "", 1295832809},
		{"the byte 0", "\x00", 1849130177},
		{"the byte 1", "\x01", 787147044},
		{"a", "a", 1252180378},
		{"b", "b", 1404907847},
		{"the byte 127", "\x7f", 755218969},
		{"the byte 128", "\x80", 3059121467},
		{"the byte 255", "\xff", 1120780935},
		{"abc", "abc", 980112286},
		{"four great bytes", "\xff\xfe\xfd\xfc", 2929560581},
		{"64 bytes", strings.Repeat("a", 64), 350374883},
		{"1000 bytes", strings.Repeat("a", 1000), 310333157},
		{"4096 bytes 0", strings.Repeat("\x00", 4096), 1823425068},
		{"all bytes", manyBytes()[:256], 1592518926},
		{"all bytes forty times", manyBytes(), 2689313498},
		{"65536 bytes 255", strings.Repeat("\xff", 65536), 3684073751},
	} {
		if got := impl.Digest(c.s); got != c.want {
			t.Errorf("Digest of %s is %d, want %d", c.name, got, c.want)
		}
	}
}

func TestDigestOfStringsOfManyBlocks(t *testing.T) {
	long := manyBytes()
	for _, block := range []int{1, 2, 4, 8, 16, 32, 64, 128, 256, 512, 1024} {
		for _, blocks := range []int{1, 2, 3, 10} {
			for _, n := range []int{block*blocks - 1, block * blocks, block*blocks + 1} {
				s := long[len(long)-min(n, len(long)):]
				if got, want := impl.Digest(s), digestOf(s); got != want {
					t.Errorf("Digest of %d bytes is %d, want %d", len(s), got, want)
				}
			}
		}
	}
}

func TestDigestTellsEachByteOfALongString(t *testing.T) {
	long := []byte(manyBytes()[:600])
	digest := impl.Digest(string(long))
	for i := range long {
		other := slices.Clone(long)
		other[i] ^= 0x80
		if got, want := impl.Digest(string(other)), digestOf(string(other)); got != want || got == digest {
			t.Errorf("Digest with another byte %d is %d, want %d", i, got, want)
		}
	}
}

func TestP11DigestIsInRange(t *testing.T) {
	great := 0
	for _, s := range append(someBytes(), someTexts()...) {
		d := impl.Digest(s)
		if d < 0 || d > impl.NumTop {
			t.Fatalf("Digest(%x) is %d", s, d)
		}
		if want := digestOf(s); d != want {
			t.Fatalf("Digest(%x) is %d, want %d", s, d, want)
		}
		if d > impl.NumTop/2 {
			great++
		}
	}
	if great < 1000 {
		t.Errorf("just %d digests are in the upper half", great)
	}
}

func TestDigestBytesTellsTheBytes(t *testing.T) {
	for _, c := range []struct {
		d    int
		want string
	}{
		{0, "\x00\x00\x00\x00"}, {1, "\x00\x00\x00\x01"}, {255, "\x00\x00\x00\xff"}, {256, "\x00\x00\x01\x00"},
		{65536, "\x00\x01\x00\x00"}, {0x01020304, "\x01\x02\x03\x04"}, {1 << 31, "\x80\x00\x00\x00"}, {impl.NumTop, "\xff\xff\xff\xff"},
	} {
		if got := impl.DigestBytes(c.d); got != c.want {
			t.Errorf("DigestBytes(%d) is %x, want %x", c.d, got, c.want)
		}
	}
	for _, d := range someDigests() {
		if got, want := impl.DigestBytes(d), string(binary.BigEndian.AppendUint32(nil, uint32(d))); got != want {
			t.Errorf("DigestBytes(%d) is %x, want %x", d, got, want)
		}
	}
}

func TestDigestBytesRefusesWhatIsNoDigest(t *testing.T) {
	for _, d := range noDigests {
		if s := impl.DigestBytes(d); s != "" {
			t.Errorf("DigestBytes(%d) is %x", d, s)
		}
	}
}

func TestP12BytesDigestOfDigestBytes(t *testing.T) {
	for _, d := range someDigests() {
		if got, ok := impl.BytesDigest(impl.DigestBytes(d)); !ok || got != d {
			t.Errorf("BytesDigest of DigestBytes(%d) is %d, %t", d, got, ok)
		}
	}
}

func TestP13DigestBytesOfBytesDigest(t *testing.T) {
	told := 0
	list := append(someBytes(), "abcd", "\xff\xff\xff\xff", "\xff\x00\xff\x00", "\x00\xff\x00\xff", "\x80\x00\x00\x00", "\x7f\xff\xff\xff", "äö")
	for _, s := range list {
		d, ok := impl.BytesDigest(s)
		if ok != (len(s) == 4) {
			t.Errorf("BytesDigest(%x) is %d, %t", s, d, ok)
		}
		if !ok && d != 0 {
			t.Errorf("BytesDigest(%x) is %d, but false", s, d)
		}
		if ok && impl.DigestBytes(d) != s {
			t.Errorf("DigestBytes of BytesDigest(%x) is %x", s, impl.DigestBytes(d))
		}
		if ok {
			told++
		}
	}
	if told < 100 {
		t.Errorf("BytesDigest is told of just %d strings", told)
	}
}

func TestBytesDigestRefusesOtherLengths(t *testing.T) {
	for _, s := range []string{"", "\x01", "ab", "abc", "\xff\xff\xff", "abcde", "\xff\xff\xff\xff\xff", "\x00\x00\x00\x00\x00", "\x00\x00\x00", "12345678", manyBytes()} {
		if d, ok := impl.BytesDigest(s); ok || d != 0 {
			t.Errorf("BytesDigest of %d bytes is %d, %t", len(s), d, ok)
		}
	}
}

func TestDigestPairTellsTheNumbers(t *testing.T) {
	for _, c := range []struct{ a, b, want int }{
		{0, 0, 1880520974}, {1, 2, 920205083}, {2, 1, 3589668165}, {impl.NumTop, impl.NumTop, 4053919647},
		{0, impl.NumTop, 2133775229}, {0x01020304, 0xfafbfcfd, 336989875},
	} {
		if got := impl.DigestPair(c.a, c.b); got != c.want {
			t.Errorf("DigestPair(%d, %d) is %d, want %d", c.a, c.b, got, c.want)
		}
	}
}

func TestP14DigestPairIsTheDigestOfBoth(t *testing.T) {
	list := someDigests()
	for i, a := range list {
		b := list[(i*7+3)%len(list)]
		if got, want := impl.DigestPair(a, b), impl.Digest("\x01"+impl.DigestBytes(a)+impl.DigestBytes(b)); got != want {
			t.Errorf("DigestPair(%d, %d) is %d, want %d", a, b, got, want)
		}
		if a != b && impl.DigestPair(a, b) == impl.DigestPair(b, a) {
			t.Errorf("DigestPair of %d and %d is the same in either order", a, b)
		}
	}
}

func TestDigestPairRefusesWhatIsNoDigest(t *testing.T) {
	for _, no := range noDigests {
		for _, yes := range []int{0, 1, impl.NumTop, no} {
			if a, b := impl.DigestPair(no, yes), impl.DigestPair(yes, no); a != -1 || b != -1 {
				t.Errorf("DigestPair of %d and %d is %d, and %d in the other order", no, yes, a, b)
			}
		}
	}
}

func TestDigestsMeet(t *testing.T) {
	long := strings.Repeat("x", 5000)
	for _, c := range []struct {
		name string
		list []string
		want bool
	}{
		{"no list", nil, false},
		{"the empty list", []string{}, false},
		{"one string", []string{"liquid"}, false},
		{"the empty string twice", []string{"", ""}, false},
		{"one string twice", []string{"liquid", "liquid"}, false},
		{"one string many times", slices.Repeat([]string{"liquid"}, 50), false},
		{"two strings", []string{"a", "b"}, false},
		{"two long strings", []string{long, long + "x"}, false},
		{"two strings that meet", []string{"costarring", "liquid"}, true},
		{"two strings that meet, the other way round", []string{"liquid", "costarring"}, true},
		{"two strings that meet, behind one of them twice", []string{"liquid", "liquid", "costarring"}, true},
		{"two strings that meet, apart", []string{"a", "liquid", "b", "c", "a", "costarring", "d"}, true},
		{"a meeting of the second string and the last one", []string{"x", "zinke", "", "y", "altarage"}, true},
		{"halves of two meetings", []string{"liquid", "zinke", "macallums", "zinkes"}, false},
		{"two meetings", []string{"liquid", "zinke", "altarage", "costarring"}, true},
		{"all bytes", someBytes()[1:257], false},
	} {
		if got := impl.DigestsMeet(c.list); got != c.want {
			t.Errorf("DigestsMeet of %s is %t", c.name, got)
		}
	}
	for _, m := range meetings {
		if m[0] == m[1] || impl.Digest(m[0]) != impl.Digest(m[1]) || !impl.DigestsMeet(m[:]) {
			t.Errorf("%q and %q do not meet", m[0], m[1])
		}
	}
}

func TestDigestsMeetOfManyStrings(t *testing.T) {
	list := someBytes()[:60000]
	byDigest := map[int]string{}
	want := false
	for _, s := range list {
		d := digestOf(s)
		if other, there := byDigest[d]; there && other != s {
			want = true
		}
		byDigest[d] = s
	}
	if got := impl.DigestsMeet(list); got != want {
		t.Errorf("DigestsMeet of %d strings is %t", len(list), got)
	}
	if !impl.DigestsMeet(append(slices.Concat([]string{"costarring"}, list), "liquid")) {
		t.Errorf("DigestsMeet of the first string and the last one is false")
	}
}

func TestP15DigestsMeetOfAPart(t *testing.T) {
	words := []string{"a", "costarring", "a", "zinke", "liquid", "", "altarage", "liquid"}
	held, not := 0, 0
	for whole := range 1 << len(words) {
		list := chosen(words, whole)
		meet := impl.DigestsMeet(list)
		if meet {
			held++
		} else {
			not++
		}
		for i := range list {
			part := slices.Delete(slices.Clone(list), i, i+1)
			if impl.DigestsMeet(part) && !meet {
				t.Errorf("DigestsMeet holds of %q, but not of %q", part, list)
			}
		}
	}
	if held == 0 || not == 0 {
		t.Errorf("DigestsMeet holds of %d lists and does not of %d", held, not)
	}
}

// chosen returns the words whose binary digit of the choice is 1.
func chosen(words []string, choice int) []string {
	var list []string
	for i, w := range words {
		if choice>>i&1 == 1 {
			list = append(list, w)
		}
	}
	return list
}

func TestDigestsMeetLeavesItsList(t *testing.T) {
	list := []string{"liquid", "b", "a", "costarring"}
	impl.DigestsMeet(list)
	if !slices.Equal(list, []string{"liquid", "b", "a", "costarring"}) {
		t.Errorf("DigestsMeet has changed its list to %q", list)
	}
}
