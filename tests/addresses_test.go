package tests

import (
	"math"
	"math/rand"
	"slices"
	"strconv"
	"strings"
	"testing"

	"loop.example/workchain/impl"
)

// addressAlphabet is the characters of addresses, in the order of their values.
const addressAlphabet = "abcdefghjkmnpqrstuvwxyz23456789"

// noKinds are numbers on both sides of those that are kinds of addresses.
var noKinds = []int{-1, -2, -30, -31, -32, math.MinInt, 31, 32, 61, 62, 255, 256, impl.NumTop, impl.NumTop + 1, math.MaxInt}

// numbersAbove are numbers of seven digits that no address has: those next to NumTop, those at which the first digits change, and the greatest one.
var numbersAbove = []int{impl.NumTop + 1, impl.NumTop + 2, impl.NumTop + 31, 4437518404, 4437518405, 1 << 33, 17750073620, 26625110430, 27512614109, 27512614110}

// fixedAddresses were worked out by a separate script, which searches for the check characters; it added these to the last ones, which were written by hand.
var fixedAddresses = []struct {
	kind    int
	n       int
	address string
}{
	{0, 0, "aaaaaaaaaa"},
	{30, 0, "9aaaaaaak2"},
	{0, 1, "aaaaaaab8b"},
	{30, 1, "9aaaaaabh3"},
	{0, 30, "aaaaaaa9c9"},
	{30, 30, "9aaaaaa9nz"},
	{0, 31, "aaaaaaba7c"},
	{30, 31, "9aaaaabag4"},
	{0, 32, "aaaaaabb5d"},
	{1, 960, "baaaaa996f"},
	{7, 961, "haaaabaa57"},
	{15, 29791, "saaabaaasa"},
	{29, 923520, "8aaa9999bf"},
	{30, 28629151, "9abaaaaac8"},
	{0, 887503680, "aa9999996m"},
	{1, 887503681, "bbaaaaaars"},
	{7, 3550014724, "heaaaaaa8z"},
	{15, 123456789, "saekydacdf"},
	{29, 980112286, "8bdhjv7njn"},
	{30, 2147483647, "9cqak9pbkv"},
	{0, 2147483648, "acqak9pc86"},
	{1, 4294967294, "be5aw83cuc"},
	{0, 4294967295, "ae5aw83d35"},
	{30, 4294967295, "9e5aw83dcv"},
	{2, 29558577, "cabbages6g"},
	{16, 3552074596, "teachers9b"},
	{3, 458096676, "databasexd"},
	{12, 65575911, "package9h2"},
	{7, 436392150, "hashtreegx"},
	{4, 947656708, "ebcdefghh2"},
	{30, 3343916646, "9d2345676e"},
	{23, 2485996421, "2c345678k3"},
	{5, 1, "faaaaaabsm"},
}

// textWith is the string that begins with the given characters and ends with the two that make both sums divisible by AddressBase: all pairs are tried, and just one does.
func textWith(t *testing.T, first string) string {
	t.Helper()
	var found []string
	for _, a := range addressAlphabet {
		for _, b := range addressAlphabet {
			s := first + string(a) + string(b)
			if plain, placed := remaindersOf(s); plain == 0 && placed == 0 {
				found = append(found, s)
			}
		}
	}
	if len(found) != 1 {
		t.Fatalf("%q has %d pairs of check characters", first, len(found))
	}
	return found[0]
}

// remaindersOf are those that both sums of a string of characters of addresses have, divided by AddressBase.
func remaindersOf(s string) (int, int) {
	plain, placed := 0, 0
	for i := range len(s) {
		value := strings.IndexByte(addressAlphabet, s[i])
		plain += value
		placed += (i + 1) * value
	}
	return plain % 31, placed % 31
}

// textOf is the string of a kind and a number of at most seven digits, which strconv tells, with its check characters.
func textOf(t *testing.T, kind int, n int) string {
	t.Helper()
	digits := strconv.FormatInt(int64(n), 31)
	first := addressAlphabet[kind : kind+1]
	for _, digit := range strings.Repeat("0", 7-len(digits)) + digits {
		value, err := strconv.ParseInt(string(digit), 31, 64)
		if err != nil {
			t.Fatal(err)
		}
		first += addressAlphabet[value : value+1]
	}
	return textWith(t, first)
}

// isAddress tells of a string of ten bytes, by the words of the document, whether it is an address.
func isAddress(s string) bool {
	for i := range len(s) {
		if strings.IndexByte(addressAlphabet, s[i]) < 0 {
			return false
		}
	}
	if plain, placed := remaindersOf(s); plain != 0 || placed != 0 {
		return false
	}
	digits := ""
	for _, c := range s[1:8] {
		digits += strconv.FormatInt(int64(strings.IndexRune(addressAlphabet, c)), 31)
	}
	n, err := strconv.ParseInt(digits, 31, 64)
	return err == nil && n <= impl.NumTop
}

// changed is the string with another byte at a place.
func changed(s string, i int, b byte) string {
	return s[:i] + string([]byte{b}) + s[i+1:]
}

// exchanged is the string with the characters at a place and behind it exchanged.
func exchanged(s string, i int) string {
	return changed(changed(s, i, s[i+1]), i+1, s[i])
}

// othersAt are the strings that have another character of addresses at a place.
func othersAt(s string, i int) []string {
	var list []string
	for _, b := range []byte(addressAlphabet) {
		if b != s[i] {
			list = append(list, changed(s, i, b))
		}
	}
	return list
}

// mendsOf are all addresses that are the string or differ from it in one character.
func mendsOf(s string) []string {
	near := []string{s}
	for i := range s {
		near = append(near, othersAt(s, i)...)
	}
	return slices.DeleteFunc(near, func(other string) bool { return !isAddress(other) })
}

// differences is in how many places two strings of the same length differ.
func differences(a string, b string) int {
	n := 0
	for i := range len(a) {
		if a[i] != b[i] {
			n++
		}
	}
	return n
}

// someNumbers returns numbers of addresses at the edges of their digits, and others.
func someNumbers() []int {
	list := []int{0, 1, 29, 30, 31, 32, 959, 960, 961, 962, 887503680, 887503681, 3550014723, 3550014724, 4294967264, impl.NumTop - 1, impl.NumTop}
	for power := 1; power < impl.NumTop; power *= 31 {
		list = append(list, power-1, power, power+1, 2*power, 3*power-1)
	}
	return append(list, someDigests()[:80]...)
}

// someAddresses returns addresses of all kinds: the fixed ones, and such as have the numbers of someNumbers.
func someAddresses(t *testing.T) []string {
	var list []string
	for _, c := range fixedAddresses {
		list = append(list, c.address)
	}
	for i, n := range someNumbers() {
		list = append(list, mustAddress(t, i%31, n), mustAddress(t, i*i%31, n))
	}
	return list
}

// addressesAbove returns strings that would be addresses if the number were not above NumTop.
func addressesAbove(t *testing.T) []string {
	var list []string
	for _, kind := range []int{0, 1, 12, 29, 30} {
		for _, n := range numbersAbove {
			list = append(list, textOf(t, kind, n))
		}
	}
	return list
}

// someTens returns strings of ten characters of addresses, any of them; every other one has a first digit that numbers up to NumTop have.
func someTens(n int) []string {
	r := rand.New(rand.NewSource(9))
	var list []string
	for i := range n {
		s := make([]byte, impl.AddressLength)
		for at := range s {
			s[at] = addressAlphabet[r.Intn(31)]
		}
		if i%2 == 0 {
			s[1] = addressAlphabet[r.Intn(5)]
		}
		list = append(list, string(s))
	}
	return list
}

func mustAddress(t *testing.T, kind int, n int) string {
	t.Helper()
	s, ok := impl.AddressOf(kind, n)
	if !ok {
		t.Fatalf("AddressOf(%d, %d) is false", kind, n)
	}
	return s
}

func mustReadAddress(t *testing.T, s string) (int, int) {
	t.Helper()
	kind, n, ok := impl.AddressRead(s)
	if !ok {
		t.Fatalf("AddressRead(%q) is false", s)
	}
	return kind, n
}

// mendsTo tells where AddressMend is not the address that is wanted.
func mendsTo(t *testing.T, s string, want string) {
	t.Helper()
	if got, ok := impl.AddressMend(s); !ok || got != want {
		t.Errorf("AddressMend(%q) is %q, %t, want %q", s, got, ok, want)
	}
}

// refusesAddressOf tells where AddressOf is not false and no address.
func refusesAddressOf(t *testing.T, kind int, n int) {
	t.Helper()
	if s, ok := impl.AddressOf(kind, n); ok || s != "" {
		t.Errorf("AddressOf(%d, %d) is %q, %t", kind, n, s, ok)
	}
}

// refusesToReadAddress tells where AddressRead is not false, no kind and no number.
func refusesToReadAddress(t *testing.T, s string) {
	t.Helper()
	if kind, n, ok := impl.AddressRead(s); ok || kind != 0 || n != 0 {
		t.Errorf("AddressRead(%q) is %d, %d, %t", s, kind, n, ok)
	}
}

// refusesToMend tells where AddressMend is not false and no address.
func refusesToMend(t *testing.T, s string) {
	t.Helper()
	if got, ok := impl.AddressMend(s); ok || got != "" {
		t.Errorf("AddressMend(%q) is %q, %t", s, got, ok)
	}
}

func TestAddressesHaveTenOf31Characters(t *testing.T) {
	if impl.AddressLength != 10 || impl.AddressBase != 31 || len(addressAlphabet) != 31 {
		t.Errorf("AddressLength is %d, AddressBase is %d", impl.AddressLength, impl.AddressBase)
	}
}

func TestAddressesOfTheTable(t *testing.T) {
	for _, c := range fixedAddresses {
		if s, ok := impl.AddressOf(c.kind, c.n); !ok || s != c.address {
			t.Errorf("AddressOf(%d, %d) is %q, %t, want %q", c.kind, c.n, s, ok, c.address)
		}
		if kind, n, ok := impl.AddressRead(c.address); !ok || kind != c.kind || n != c.n {
			t.Errorf("AddressRead(%q) is %d, %d, %t, want %d, %d", c.address, kind, n, ok, c.kind, c.n)
		}
		mendsTo(t, c.address, c.address)
	}
}

func TestAddressOfIsAsTheDocumentTells(t *testing.T) {
	for _, kind := range []int{0, 1, 2, 15, 29, 30} {
		for _, n := range someNumbers() {
			if got, want := mustAddress(t, kind, n), textOf(t, kind, n); got != want {
				t.Errorf("AddressOf(%d, %d) is %q, want %q", kind, n, got, want)
			}
		}
	}
	for kind := range 31 {
		for n := range 100 {
			if got, want := mustAddress(t, kind, n), textOf(t, kind, n); got != want {
				t.Errorf("AddressOf(%d, %d) is %q, want %q", kind, n, got, want)
			}
		}
	}
}

func TestAddressOfTellsTheCharactersInOrder(t *testing.T) {
	for value := range 31 {
		s := mustAddress(t, value, value)
		if s[0] != addressAlphabet[value] || s[7] != addressAlphabet[value] || s[1:7] != "aaaaaa" {
			t.Errorf("AddressOf(%d, %d) is %q", value, value, s)
		}
	}
}

func TestAddressOfRefusesOtherKinds(t *testing.T) {
	for _, kind := range noKinds {
		for _, n := range []int{0, 1, 31, 123456789, impl.NumTop, -1, impl.NumTop + 1} {
			refusesAddressOf(t, kind, n)
		}
	}
}

func TestAddressOfRefusesOtherNumbers(t *testing.T) {
	for kind := -1; kind <= 31; kind++ {
		for _, n := range slices.Concat(noDigests, numbersAbove, []int{27512614111, -31, -27512614111}) {
			refusesAddressOf(t, kind, n)
		}
	}
}

func TestP50AddressReadOfAddressOf(t *testing.T) {
	for wantKind := range 31 {
		for _, wantN := range someNumbers() {
			s := mustAddress(t, wantKind, wantN)
			if kind, n := mustReadAddress(t, s); kind != wantKind || n != wantN {
				t.Errorf("AddressRead of AddressOf(%d, %d) is %d, %d", wantKind, wantN, kind, n)
			}
		}
	}
}

func TestP51AddressOfAddressRead(t *testing.T) {
	list := someAddresses(t)
	for _, s := range someTens(1000) {
		if s = textWith(t, s[:8]); isAddress(s) {
			list = append(list, s)
		}
	}
	for _, s := range list {
		kind, n := mustReadAddress(t, s)
		if got := mustAddress(t, kind, n); got != s {
			t.Errorf("AddressOf of AddressRead(%q) is %q", s, got)
		}
	}
}

func TestAddressReadTakesOnePairOfCheckCharacters(t *testing.T) {
	taken := 0
	for _, first := range append(someTens(40), "ae5aw83d..", "ae5aw83e..", "a9999999..", "aaaaaaaa..") {
		for _, a := range addressAlphabet {
			for _, b := range addressAlphabet {
				s := first[:8] + string(a) + string(b)
				if !isAddress(s) {
					refusesToReadAddress(t, s)
					continue
				}
				mustReadAddress(t, s)
				taken++
			}
		}
	}
	if taken < 10 {
		t.Errorf("only %d addresses among all strings", taken)
	}
}

// refusesText tells where AddressRead or AddressMend takes a string that neither is an address nor differs from one in one character.
func refusesText(t *testing.T, s string) {
	t.Helper()
	refusesToReadAddress(t, s)
	refusesToMend(t, s)
}

func TestStringsOfOtherLengthsAreNoAddresses(t *testing.T) {
	refusesText(t, "")
	for n := range 100 {
		if n == impl.AddressLength {
			continue
		}
		refusesText(t, strings.Repeat("9", n))
		// All values of this one are 0, so both sums are divisible at any length.
		refusesText(t, strings.Repeat("a", n))
	}
	for _, s := range someAddresses(t) {
		for n := range impl.AddressLength {
			refusesText(t, s[:n])
			refusesText(t, s[impl.AddressLength-n:])
		}
		for _, more := range []string{"a", "b", "9", s[:1], s[9:], " ", "\n", "\x00", "\xff", "ä", s} {
			refusesText(t, s+more)
			refusesText(t, more+s)
			refusesText(t, s[:5]+more+s[5:])
		}
	}
}

func TestStringsOfOtherLengthsWithBothSumsAreNoAddresses(t *testing.T) {
	for _, s := range someTens(300) {
		for _, n := range []int{7, 8, 9, 11, 12, 20} {
			other := textWith(t, (s + s)[:n-2])
			if plain, placed := remaindersOf(other); len(other) != n || plain != 0 || placed != 0 {
				t.Fatalf("%q has the sums %d, %d", other, plain, placed)
			}
			refusesText(t, other)
		}
	}
}

func TestStringsWithOtherCharactersAreNoAddresses(t *testing.T) {
	for _, s := range append(someAddresses(t)[:60], someTens(10)...) {
		for i := range impl.AddressLength {
			for b := range 256 {
				if strings.IndexByte(addressAlphabet, byte(b)) < 0 {
					refusesText(t, changed(s, i, byte(b)))
				}
			}
		}
	}
}

func TestStringsLikeAddressesAreNone(t *testing.T) {
	for _, s := range someAddresses(t) {
		for i := range impl.AddressLength {
			for _, b := range "ABXZiloILO01 -_=.:\t\n\x00\x7f" {
				refusesText(t, changed(s, i, byte(b)))
			}
		}
		if upper := strings.ToUpper(s); upper != s {
			refusesText(t, upper)
		}
	}
	for _, s := range []string{
		"iiiiiiiiii", "llllllllll", "oooooooooo", "0000000000", "1111111111", "          ", "AAAAAAAAAA",
		"\x00\x00\x00\x00\x00\x00\x00\x00\x00\x00", "\xff\xff\xff\xff\xff\xff\xff\xff\xff\xff",
		"aaaaaaaaä", "äaaaaaaaa", "aaaaaaaaaä", "aaaašaaaa", "šaaaaaaaaa", "aaaa\u2062aaa", "äääää", "aaaaaaaaa\x80", "\x80aaaaaaaaa",
	} {
		refusesText(t, s)
	}
}

// shifted is a string of characters of addresses with some more at one place, and at another one; values from AddressBase on begin with 0 again.
func shifted(s string, i int, more int, j int, moreThere int) string {
	value := func(at int, more int) byte {
		return addressAlphabet[(strings.IndexByte(addressAlphabet, s[at])+more)%31]
	}
	return changed(changed(s, i, value(i, more)), j, value(j, moreThere))
}

func TestOneSumAloneIsNotEnough(t *testing.T) {
	for _, s := range someAddresses(t) {
		for i := range impl.AddressLength {
			for j := range impl.AddressLength {
				if i == j {
					continue
				}
				for _, more := range []int{1, 2, 15, 30} {
					// What the one place has more, the other one has less.
					plainAlone := shifted(s, i, more, j, 31-more)
					if plain, placed := remaindersOf(plainAlone); plain != 0 || placed == 0 {
						t.Fatalf("%q has the sums %d, %d", plainAlone, plain, placed)
					}
					refusesToReadAddress(t, plainAlone)
					// The same holds of what they have more times their places.
					placedAlone := shifted(s, i, (j+1)*more, j, (i+1)*(31-more))
					if plain, placed := remaindersOf(placedAlone); plain == 0 || placed != 0 {
						t.Fatalf("%q has the sums %d, %d", placedAlone, plain, placed)
					}
					refusesToReadAddress(t, placedAlone)
				}
			}
		}
	}
	for _, s := range []string{"aaaaaaaa9b", "9b" + "aaaaaaaa", "baaaaaaaa9", "aaaabaaa9a", "aaaaaaaakb", "b9aaaaaaaa", "aaaaaaaab9"} {
		refusesToReadAddress(t, s)
	}
}

func TestNumbersAboveNumTopAreNoAddresses(t *testing.T) {
	for _, s := range append(addressesAbove(t), "ae5aw83ez6", "9e5aw83eaw", "afaaaaaaze", "a9999999ed", "99999999q5", "akybj7ujyn") {
		if plain, placed := remaindersOf(s); plain != 0 || placed != 0 {
			t.Fatalf("%q has the sums %d, %d", s, plain, placed)
		}
		refusesText(t, s)
	}
}

func TestP52AddressMendIsAnAddressNearby(t *testing.T) {
	mended, not := 0, 0
	for _, s := range append(someTens(5000), someAddresses(t)...) {
		got, ok := impl.AddressMend(s)
		want := mendsOf(s)
		if len(want) > 1 {
			t.Fatalf("%q differs from %q in one character", s, want)
		}
		if len(want) == 0 {
			refusesToMend(t, s)
			not++
			continue
		}
		mended++
		mendsTo(t, s, want[0])
		if ok {
			mustReadAddress(t, got)
			if differences(s, got) > 1 {
				t.Errorf("AddressMend(%q) is %q", s, got)
			}
		}
	}
	if mended < 300 || not < 300 {
		t.Errorf("%d strings of %d are mended", mended, mended+not)
	}
}

func TestP52AddressMendOfAnAddressIsItself(t *testing.T) {
	for _, s := range someAddresses(t) {
		mendsTo(t, s, s)
	}
	for kind := range 31 {
		for n := range 1000 {
			s := mustAddress(t, kind, n)
			mendsTo(t, s, s)
		}
	}
}

func TestAddressMendOfTwoWrongCharacters(t *testing.T) {
	mended, not := 0, 0
	for _, s := range []string{"aaaaaaaaaa", "9e5aw83dcv", "teachers9b"} {
		for j := range impl.AddressLength {
			for i := range j {
				for at, once := range othersAt(s, i) {
					for _, twice := range othersAt(once, j)[at%10:][:3] {
						refusesToReadAddress(t, twice)
						want := mendsOf(twice)
						if len(want) == 0 {
							refusesToMend(t, twice)
							not++
							continue
						}
						mended++
						mendsTo(t, twice, want[0])
						if want[0] == s || differences(want[0], twice) != 1 {
							t.Errorf("%q differs from %q and %q", twice, s, want[0])
						}
					}
				}
			}
		}
	}
	if mended < 100 || not < 100 {
		t.Errorf("%d strings of %d are mended", mended, mended+not)
	}
}

func TestAddressMendOfOneSumAloneIsFalse(t *testing.T) {
	for _, s := range someAddresses(t) {
		for j := range impl.AddressLength {
			for i := range j {
				for more := 1; more < 31; more += 7 {
					// With the first sum as it must be, no single character can be wrong.
					refusesText(t, shifted(s, i, more, j, 31-more))
				}
			}
		}
	}
	for _, s := range []string{"aaaaaaaa9b", "9baaaaaaaa", "baaaaaaaa9", "aaaabaaa9a"} {
		refusesText(t, s)
	}
}

func TestAddressMendOfNumbersAboveNumTopIsFalse(t *testing.T) {
	for _, s := range addressesAbove(t) {
		refusesToMend(t, s)
		for i := range impl.AddressLength {
			for _, other := range othersAt(s, i) {
				if len(mendsOf(other)) != 0 {
					t.Fatalf("%q can be mended", other)
				}
				refusesText(t, other)
			}
		}
	}
}

func TestAddressMendOfAnAddressThatLooksGreater(t *testing.T) {
	for _, s := range someAddresses(t) {
		for _, first := range []byte("fghz29") {
			mendsTo(t, changed(s, 1, first), s)
		}
	}
}

func TestP53ExchangedCharacters(t *testing.T) {
	list := someAddresses(t)
	for _, s := range someTens(3000) {
		if s = textWith(t, s[:8]); isAddress(s) {
			list = append(list, s)
		}
	}
	var different, same [impl.AddressLength - 1]int
	for _, s := range list {
		for i := range impl.AddressLength - 1 {
			other := exchanged(s, i)
			if s[i] == s[i+1] {
				same[i]++
				mendsTo(t, other, s)
				mustReadAddress(t, other)
				continue
			}
			different[i]++
			refusesText(t, other)
		}
	}
	for i := range impl.AddressLength - 1 {
		if different[i] < 100 || same[i] < 10 {
			t.Errorf("at place %d %d different characters are exchanged, and %d same ones", i, different[i], same[i])
		}
	}
}

func TestP53ExchangedCharactersOfFixedAddresses(t *testing.T) {
	for _, s := range []string{
		"acbbages6g", "cbabages6g", "cababges6g", "cabbgaes6g", "cabbaegs6g", "cabbagse6g", "cabbage6sg", "cabbagesg6",
		"etachers9b", "taechers9b", "tecahers9b", "teahcers9b", "teacehrs9b", "teachres9b", "teachesr9b", "teacher9sb", "teachersb9",
		"aaaaaaba8b", "aaaaaaa8bb", "aaaaaaabb8", "e95aw83dcv", "9e5aw83dvc", "9e5aw83cdv",
	} {
		refusesText(t, s)
	}
	for _, s := range []string{"cabbages6g", "aaaaaaaaaa", "9aaaaaaak2"} {
		mustReadAddress(t, exchanged(s, 2))
		mendsTo(t, exchanged(s, 2), s)
	}
}

func TestP54OneOtherCharacter(t *testing.T) {
	for _, s := range someAddresses(t) {
		for i := range impl.AddressLength {
			others := othersAt(s, i)
			if len(others) != 30 {
				t.Fatalf("there are %d other characters than that of %q at %d", len(others), s, i)
			}
			for _, other := range others {
				refusesToReadAddress(t, other)
				mendsTo(t, other, s)
			}
		}
	}
}

func TestP54OneOtherCharacterOfFixedAddresses(t *testing.T) {
	for _, c := range []struct{ s, want string }{
		{"aaaabaaaaa", "aaaaaaaaaa"},
		{"baaaaaaaaa", "aaaaaaaaaa"},
		{"aaaaaaaaa9", "aaaaaaaaaa"},
		{"aaaaaaaa9a", "aaaaaaaaaa"},
		{"a9aaaaaaaa", "aaaaaaaaaa"},
		{"aaaaaaab8c", "aaaaaaab8b"},
		{"cabbages6h", "cabbages6g"},
		{"babbages6g", "cabbages6g"},
		{"cabbagez6g", "cabbages6g"},
		{"preachers9b"[1:], "teachers9b"},
		{"t9achers9b", "teachers9b"},
		{"9f5aw83dcv", "9e5aw83dcv"},
		{"9e5aw83ecv", "9e5aw83dcv"},
	} {
		refusesToReadAddress(t, c.s)
		mendsTo(t, c.s, c.want)
	}
}
