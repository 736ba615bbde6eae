package tests

import (
	"encoding/binary"
	"encoding/hex"
	"math"
	"math/rand"
	"slices"
	"strings"
	"testing"

	"loop.example/workchain/impl"
)

// edgeNums are the numbers at which the length of an encoding changes, and those beside them.
var edgeNums = []int{0, 1, 127, 128, 251, 252, 253, 254, 255, 256, 300, 4000, 65534, 65535, 65536, 65537, 1 << 24, 1 << 31, impl.NumTop - 1, impl.NumTop}

// tails are what stands behind an encoding; each of them could be taken for a part of it.
var tails = []string{"", "\x00", "x", "\xfd", "\xfe\xff", "\xff\xff\xff\xff\xff", strings.Repeat("\x00", 9)}

// numBytes is the encoding of a number, written down a second time.
func numBytes(n int) string {
	switch {
	case n < 253:
		return string([]byte{byte(n)})
	case n < 65536:
		return string(binary.LittleEndian.AppendUint16([]byte{253}, uint16(n)))
	}
	return string(binary.LittleEndian.AppendUint32([]byte{254}, uint32(n)))
}

// someNums returns the numbers at the edges, all small ones, and others of each length.
func someNums() []int {
	nums := slices.Clone(edgeNums)
	for n := range 700 {
		nums = append(nums, n)
	}
	r := rand.New(rand.NewSource(1))
	for range 500 {
		nums = append(nums, r.Intn(1<<16), r.Intn(1<<24), r.Intn(impl.NumTop+1))
	}
	return nums
}

// someBytes returns strings of which some begin with an encoding: all of at most two bytes, and longer ones whose bytes are at the edges.
func someBytes() []string {
	list := []string{""}
	for a := range 256 {
		list = append(list, string([]byte{byte(a)}))
		for b := range 256 {
			list = append(list, string([]byte{byte(a), byte(b)}))
		}
	}
	ends := []string{""}
	for range 5 {
		var longer []string
		for _, end := range ends {
			for _, b := range []byte{0, 1, 252, 253, 255} {
				longer = append(longer, string([]byte{b})+end)
			}
		}
		ends = longer
		for _, end := range ends {
			for _, first := range []byte{0, 1, 2, 252, 253, 254, 255} {
				list = append(list, string([]byte{first})+end)
			}
		}
	}
	return list
}

// someTexts returns strings of the lengths at which the encoding changes.
func someTexts() []string {
	list := []string{"", "a", "\x00", "\xff\xfe\xfd", "ä", "\x80\x80"}
	for _, n := range []int{100, 251, 252, 253, 254, 255, 256, 257, 3999, impl.TextMax} {
		list = append(list, strings.Repeat("\xfd", n), strings.Repeat("ab", n)[:n])
	}
	return list
}

// someLists returns lists of 0 to ListMax strings.
func someLists() [][]string {
	lists := [][]string{nil, {}, {""}, {"", ""}, {"a"}, {"a", "", "b"}, {"\x00", "\x01\x00"}, someTexts()}
	for _, n := range []int{2, 20, 39, impl.ListMax} {
		lists = append(lists, make([]string, n), slices.Repeat([]string{"ab"}, n))
	}
	return append(lists, slices.Repeat([]string{strings.Repeat("t", impl.TextMax)}, impl.ListMax))
}

func mustNum(t *testing.T, n int) string {
	t.Helper()
	s, ok := impl.EncodeNum(n)
	if !ok {
		t.Fatalf("EncodeNum(%d) is false", n)
	}
	return s
}

func mustText(t *testing.T, text string) string {
	t.Helper()
	s, ok := impl.EncodeText(text)
	if !ok {
		t.Fatalf("EncodeText of %d bytes is false", len(text))
	}
	return s
}

func mustTexts(t *testing.T, list []string) string {
	t.Helper()
	s, ok := impl.EncodeTexts(list)
	if !ok {
		t.Fatalf("EncodeTexts of %d strings is false", len(list))
	}
	return s
}

func TestEncodeNumTellsTheBytes(t *testing.T) {
	for _, c := range []struct {
		n    int
		want string
	}{
		{0, "\x00"}, {1, "\x01"}, {252, "\xfc"},
		{253, "\xfd\xfd\x00"}, {255, "\xfd\xff\x00"}, {256, "\xfd\x00\x01"}, {300, "\xfd\x2c\x01"}, {65535, "\xfd\xff\xff"},
		{65536, "\xfe\x00\x00\x01\x00"}, {0x01020304, "\xfe\x04\x03\x02\x01"}, {impl.NumTop, "\xfe\xff\xff\xff\xff"},
	} {
		if got := mustNum(t, c.n); got != c.want {
			t.Errorf("EncodeNum(%d) is %x, want %x", c.n, got, c.want)
		}
	}
	for _, n := range someNums() {
		if got, want := mustNum(t, n), numBytes(n); got != want {
			t.Errorf("EncodeNum(%d) is %x, want %x", n, got, want)
		}
	}
}

func TestEncodeNumRefusesOtherNumbers(t *testing.T) {
	for _, n := range []int{-1, -2, -253, -256, -65536, math.MinInt, impl.NumTop + 1, impl.NumTop + 2, 1 << 40, math.MaxInt} {
		if s, ok := impl.EncodeNum(n); ok || s != "" {
			t.Errorf("EncodeNum(%d) is %x, %t", n, s, ok)
		}
	}
}

func TestP1DecodeNumOfEncodeNum(t *testing.T) {
	for _, n := range someNums() {
		for _, tail := range tails {
			got, rest, ok := impl.DecodeNum(mustNum(t, n) + tail)
			if !ok || got != n || rest != tail {
				t.Errorf("DecodeNum of %d and %x is %d, %x, %t", n, tail, got, rest, ok)
			}
		}
	}
}

func TestP2EncodeNumOfDecodeNum(t *testing.T) {
	for _, s := range someBytes() {
		n, rest, ok := impl.DecodeNum(s)
		if ok && mustNum(t, n)+rest != s {
			t.Errorf("DecodeNum(%x) is %d, %x", s, n, rest)
		}
		if !ok && (n != 0 || rest != "") {
			t.Errorf("DecodeNum(%x) is %d, %x, but false", s, n, rest)
		}
		if ok != beginsWithNum(s) {
			t.Errorf("DecodeNum(%x) is told as %t", s, ok)
		}
	}
}

// beginsWithNum reports whether s begins with what numBytes makes of some number.
func beginsWithNum(s string) bool {
	var wide [4]byte
	switch {
	case s == "":
		return false
	case s[0] == 253 && len(s) >= 3:
		copy(wide[:], s[1:3])
	case s[0] == 254 && len(s) >= 5:
		copy(wide[:], s[1:5])
	default:
		return s[0] < 253
	}
	return strings.HasPrefix(s, numBytes(int(binary.LittleEndian.Uint32(wide[:]))))
}

func TestDecodeNumRefusesWhatIsNoNumber(t *testing.T) {
	for _, c := range []struct{ name, s string }{
		{"nothing", ""},
		{"three bytes cut to one", "\xfd"},
		{"three bytes cut to two", "\xfd\xfd"},
		{"five bytes cut to one", "\xfe"},
		{"five bytes cut to three", "\xfe\x00\x00"},
		{"five bytes cut to four", "\xfe\xff\xff\xff"},
		{"0 in three bytes", "\xfd\x00\x00"},
		{"252 in three bytes", "\xfd\xfc\x00"},
		{"252 in three bytes and more", "\xfd\xfc\x00\x01\x01"},
		{"0 in five bytes", "\xfe\x00\x00\x00\x00"},
		{"252 in five bytes", "\xfe\xfc\x00\x00\x00"},
		{"253 in five bytes", "\xfe\xfd\x00\x00\x00"},
		{"65535 in five bytes", "\xfe\xff\xff\x00\x00"},
		{"65535 in five bytes and more", "\xfe\xff\xff\x00\x00\x01"},
		{"255", "\xff"},
		{"255 and eight bytes", "\xff\x00\x00\x00\x00\x01\x00\x00\x00"},
		{"255 and bytes of a number", "\xff\xff\xff\xff\xff\xff\xff\xff\xff"},
	} {
		if n, rest, ok := impl.DecodeNum(c.s); ok || n != 0 || rest != "" {
			t.Errorf("DecodeNum of %s is %d, %x, %t", c.name, n, rest, ok)
		}
	}
}

func TestEncodeTextTellsTheBytes(t *testing.T) {
	for _, text := range someTexts() {
		if got, want := mustText(t, text), numBytes(len(text))+text; got != want {
			t.Errorf("EncodeText of %d bytes is %x, want %x", len(text), got, want)
		}
	}
}

func TestEncodeTextRefusesLongStrings(t *testing.T) {
	for _, n := range []int{impl.TextMax + 1, impl.TextMax + 2, 65535, 65536, 70000} {
		if s, ok := impl.EncodeText(strings.Repeat("a", n)); ok || s != "" {
			t.Errorf("EncodeText of %d bytes is told", n)
		}
	}
}

func TestP3DecodeTextOfEncodeText(t *testing.T) {
	for _, text := range someTexts() {
		for _, tail := range tails {
			got, rest, ok := impl.DecodeText(mustText(t, text) + tail)
			if !ok || got != text || rest != tail {
				t.Errorf("DecodeText of %d bytes and %x is %d bytes, %x, %t", len(text), tail, len(got), rest, ok)
			}
		}
	}
}

func TestP4EncodeTextOfDecodeText(t *testing.T) {
	told := 0
	list := someBytes()
	for _, text := range someTexts() {
		list = append(list, numBytes(len(text))+text+"more", "\xfd"+text, "\xfe"+text, "\x02"+text)
	}
	for _, s := range list {
		text, rest, ok := impl.DecodeText(s)
		if ok && mustText(t, text)+rest != s {
			t.Errorf("DecodeText(%x) is %x, %x", s, text, rest)
		}
		if !ok && (text != "" || rest != "") {
			t.Errorf("DecodeText(%x) is %x, %x, but false", s, text, rest)
		}
		if ok {
			told++
		}
	}
	if told < 100 {
		t.Errorf("DecodeText is told of just %d strings", told)
	}
}

func TestDecodeTextRefusesWhatIsNoText(t *testing.T) {
	long := strings.Repeat("a", 70000)
	for _, c := range []struct{ name, s string }{
		{"nothing", ""},
		{"one byte of one missing", "\x01"},
		{"the last byte of three missing", "\x03ab"},
		{"the last byte of 253 missing", "\xfd\xfd\x00" + long[:252]},
		{"the last byte of TextMax missing", numBytes(impl.TextMax) + long[:impl.TextMax-1]},
		{"TextMax+1 bytes", numBytes(impl.TextMax+1) + long[:impl.TextMax+1]},
		{"65536 bytes", numBytes(65536) + long[:65536]},
		{"a length of NumTop", numBytes(impl.NumTop) + long},
		{"a length that is cut short", "\xfd\xfd"},
		{"a needless length of three bytes", "\xfd\x01\x00a"},
		{"a needless length of five bytes", "\xfe\x01\x00\x00\x00a"},
		{"a length that begins with 255", "\xff\x01\x00\x00\x00\x00\x00\x00\x00a"},
	} {
		if text, rest, ok := impl.DecodeText(c.s); ok || text != "" || rest != "" {
			t.Errorf("DecodeText of %s is %d and %d bytes, %t", c.name, len(text), len(rest), ok)
		}
	}
}

func TestEncodeTextsTellsTheBytes(t *testing.T) {
	for _, c := range []struct {
		list []string
		want string
	}{
		{nil, "\x00"}, {[]string{}, "\x00"}, {[]string{""}, "\x01\x00"},
		{[]string{"a", "", "bc"}, "\x03\x01a\x00\x02bc"},
		{make([]string, impl.ListMax), "\x28" + strings.Repeat("\x00", impl.ListMax)},
	} {
		if got := mustTexts(t, c.list); got != c.want {
			t.Errorf("EncodeTexts(%q) is %x, want %x", c.list, got, c.want)
		}
	}
}

func TestEncodeTextsRefusesLongLists(t *testing.T) {
	long := strings.Repeat("a", impl.TextMax+1)
	for _, c := range []struct {
		name string
		list []string
	}{
		{"ListMax+1 strings", make([]string, impl.ListMax+1)},
		{"253 strings", make([]string, 253)},
		{"one long string", []string{long}},
		{"a long string at the end", []string{"a", "", long}},
		{"a long string ahead of others", []string{long, "a"}},
		{"a long string as the last of ListMax", append(make([]string, impl.ListMax-1), long)},
	} {
		if s, ok := impl.EncodeTexts(c.list); ok || s != "" {
			t.Errorf("EncodeTexts of %s is told", c.name)
		}
	}
}

func TestP5DecodeTextsOfEncodeTexts(t *testing.T) {
	for _, list := range someLists() {
		got, ok := impl.DecodeTexts(mustTexts(t, list))
		if !ok || !slices.Equal(got, list) {
			t.Errorf("DecodeTexts of %d strings is %d strings, %t", len(list), len(got), ok)
		}
	}
}

func TestP6EncodeTextsOfDecodeTexts(t *testing.T) {
	told := 0
	list := someBytes()
	for _, l := range someLists() {
		s := mustTexts(t, l)
		list = append(list, s, s[1:], s+"\x00", "\x02"+s, "\x28"+s[1:], s[:len(s)-1])
	}
	for _, s := range list {
		texts, ok := impl.DecodeTexts(s)
		if ok && mustTexts(t, texts) != s {
			t.Errorf("DecodeTexts(%x) is %q", s, texts)
		}
		if !ok && len(texts) != 0 {
			t.Errorf("DecodeTexts(%x) is %q, but false", s, texts)
		}
		if ok {
			told++
		}
	}
	if told < 10 {
		t.Errorf("DecodeTexts is told of just %d strings", told)
	}
}

func TestDecodeTextsRefusesWhatIsNoList(t *testing.T) {
	long := strings.Repeat("a", impl.TextMax+1)
	for _, c := range []struct{ name, s string }{
		{"nothing", ""},
		{"bytes behind the empty list", "\x00\x00"},
		{"bytes behind a list", "\x01\x01ax"},
		{"the only string missing", "\x01"},
		{"the last string missing", "\x02\x01a"},
		{"the last byte missing", "\x02\x01a\x02b"},
		{"ListMax+1 strings", "\x29" + strings.Repeat("\x00", impl.ListMax+1)},
		{"253 strings", "\xfd\xfd\x00" + strings.Repeat("\x00", 253)},
		{"a length of NumTop", numBytes(impl.NumTop) + strings.Repeat("\x00", 100)},
		{"a needless length of three bytes", "\xfd\x01\x00\x00"},
		{"a needless length of five bytes", "\xfe\x00\x00\x00\x00"},
		{"a length that is cut short", "\xfd\x01"},
		{"a length that begins with 255", "\xff\x00"},
		{"a string of TextMax+1 bytes", "\x01" + numBytes(len(long)) + long},
		{"a string with a needless length", "\x01\xfd\x01\x00a"},
	} {
		if list, ok := impl.DecodeTexts(c.s); ok || len(list) != 0 {
			t.Errorf("DecodeTexts of %s is %d strings, %t", c.name, len(list), ok)
		}
	}
}

func TestTextsShareNoMemory(t *testing.T) {
	list := []string{"a", "bc", ""}
	s := mustTexts(t, list)
	if !slices.Equal(list, []string{"a", "bc", ""}) {
		t.Errorf("EncodeTexts has changed its list to %q", list)
	}
	one, _ := impl.DecodeTexts(s)
	two, _ := impl.DecodeTexts(s)
	for i := range one {
		one[i] = "changed"
	}
	if !slices.Equal(two, list) {
		t.Errorf("a list that was decoded is %q behind the change of another one", two)
	}
}

func TestHexOfTellsTheDigits(t *testing.T) {
	for _, c := range []struct{ s, want string }{
		{"", ""}, {"\x00", "00"}, {"\x0f\xf0", "0ff0"}, {"Az", "417a"}, {"\xde\xad\xbe\xef", "deadbeef"}, {"ä", "c3a4"},
	} {
		if got := impl.HexOf(c.s); got != c.want {
			t.Errorf("HexOf(%q) is %q, want %q", c.s, got, c.want)
		}
	}
	for b := range 256 {
		s := string([]byte{byte(b)})
		if got, want := impl.HexOf(s), hex.EncodeToString([]byte(s)); got != want {
			t.Errorf("HexOf(%q) is %q, want %q", s, got, want)
		}
	}
}

func TestP7FromHexOfHexOf(t *testing.T) {
	for _, s := range append(someBytes(), someTexts()...) {
		if got, ok := impl.FromHex(impl.HexOf(s)); !ok || got != s {
			t.Errorf("FromHex of HexOf(%q) is %q, %t", s, got, ok)
		}
	}
}

func TestP8HexOfFromHex(t *testing.T) {
	for _, s := range someBytes() {
		got, ok := impl.FromHex(s)
		if ok && impl.HexOf(got) != s {
			t.Errorf("FromHex(%q) is %q", s, got)
		}
		if !ok && got != "" {
			t.Errorf("FromHex(%q) is %q, but false", s, got)
		}
		if ok != areHexPairs(s) {
			t.Errorf("FromHex(%q) is told as %t", s, ok)
		}
	}
}

// areHexPairs reports whether s consists of pairs of digits that HexOf writes.
func areHexPairs(s string) bool {
	return len(s)%2 == 0 && strings.Trim(s, "0123456789abcdef") == ""
}

func TestFromHexRefusesOtherTexts(t *testing.T) {
	for _, s := range []string{
		"0", "a", "000", "abc", "00000",
		"AB", "aB", "Ab", "0F", "deadbeeF",
		"0g", "g0", "/0", "0:", "0`", "@0", "0G", "x1", "0x", "0x12",
		" 0", "0 ", "00 0", "00\n0", "-1", "+1", "\x00\x00", "\xff\xff", "ä", "٠",
	} {
		if got, ok := impl.FromHex(s); ok || got != "" {
			t.Errorf("FromHex(%q) is %q, %t", s, got, ok)
		}
	}
	if got, ok := impl.FromHex(""); !ok || got != "" {
		t.Errorf("FromHex of nothing is %q, %t", got, ok)
	}
}

func TestP9NoEncodingBeginsAnother(t *testing.T) {
	nums := append(slices.Clone(edgeNums), 2, 3, 50, 250, 259, 509, 510, 765, 1000, 64768, 65021, 65533, 65790, 1<<16+253, 1<<24+1, 253<<8, 254<<16)
	for _, a := range nums {
		for _, b := range nums {
			if a != b && strings.HasPrefix(mustNum(t, b), mustNum(t, a)) {
				t.Errorf("the encoding of %d begins that of %d", a, b)
			}
		}
	}
	seen := map[string]int{}
	for _, n := range someNums() {
		seen[mustNum(t, n)] = n
	}
	for s, n := range seen {
		for i := range len(s) {
			if other, is := seen[s[:i]]; is {
				t.Errorf("the encoding of %d begins that of %d", other, n)
			}
		}
	}
}

func TestP10EncodingOfTwoListsTogether(t *testing.T) {
	for _, a := range someLists() {
		for _, b := range someLists() {
			both := slices.Concat(a, b)
			s, ok := impl.EncodeTexts(both)
			if ok != (len(both) <= impl.ListMax) {
				t.Errorf("EncodeTexts of %d and %d strings is told as %t", len(a), len(b), ok)
			}
			if !ok {
				continue
			}
			_, ofA, _ := impl.DecodeNum(mustTexts(t, a))
			_, ofB, _ := impl.DecodeNum(mustTexts(t, b))
			if s != mustNum(t, len(both))+ofA+ofB {
				t.Errorf("EncodeTexts of %d and %d strings is not that of both", len(a), len(b))
			}
		}
	}
}
