package tests

import (
	"encoding/binary"
	"fmt"
	"math"
	"math/rand"
	"slices"
	"strings"
	"testing"

	"loop.example/workchain/impl"
)

// fixedCoins were written by hand; their digests were reckoned by a separate script.
var fixedCoins = []struct {
	list   []impl.Coin
	bytes  string
	sum    int
	digest int
}{
	{nil, "\x00", 0, 1849130177},
	{[]impl.Coin{{Amount: 1}}, "\x01\x00\x00\x00\x00\x00\x01\x00\x00\x00", 1, 1742028845},
	{[]impl.Coin{{Tx: 5, Out: 2, Amount: 7, Lock: "a", Height: 1, Reward: true}}, "\x01\x00\x00\x00\x05\x02\x07\x01a\x01\x01", 7, 242770753},
	{
		[]impl.Coin{{Tx: 4294967295, Out: 5, Amount: 1000000, Lock: strings.Repeat("L", 300), Height: 9999, Reward: true}},
		"\x01\xff\xff\xff\xff\x05\xfe\x40\x42\x0f\x00\xfd\x2c\x01" + strings.Repeat("L", 300) + "\xfd\x0f\x27\x01", 1000000, 497021101,
	},
	{[]impl.Coin{{Tx: 3, Amount: 7}, {Tx: 3, Out: 1, Amount: 5}}, "\x02\x00\x00\x00\x03\x00\x07\x00\x00\x00\x00\x00\x00\x03\x01\x05\x00\x00\x00", 12, 3673926163},
	{
		[]impl.Coin{
			{Tx: 3, Amount: 252, Lock: "k", Height: 252}, {Tx: 3, Out: 5, Amount: 253, Lock: strings.Repeat("\x00", 252), Height: 253, Reward: true},
			{Tx: 980112286, Out: 1, Amount: 65535, Lock: strings.Repeat("\xfd", 253), Height: 300}, {Tx: 980112286, Out: 2, Amount: 65536, Lock: "lock", Height: 9998, Reward: true},
		},
		"\x04\x00\x00\x00\x03\x00\xfc\x01k\xfc\x00\x00\x00\x00\x03\x05\xfd\xfd\x00\xfc" + strings.Repeat("\x00", 252) + "\xfd\xfd\x00\x01" +
			"\x3a\x6b\x53\x9e\x01\xfd\xff\xff\xfd\xfd\x00" + strings.Repeat("\xfd", 253) + "\xfd\x2c\x01\x00\x3a\x6b\x53\x9e\x02\xfe\x00\x00\x01\x00\x04lock\xfd\x0e\x27\x01",
		131576, 1769616595,
	},
	{
		[]impl.Coin{
			{Tx: 1, Amount: 256, Height: 255, Reward: true}, {Tx: 255, Out: 3, Amount: 255, Lock: "\xff", Height: 256}, {Tx: 256, Out: 4, Amount: 300, Lock: "\x01\x00", Reward: true},
			{Tx: 65536, Amount: 70000, Lock: "\x00", Height: 65}, {Tx: 0x01020304, Out: 1, Amount: 1, Lock: "w", Height: 1, Reward: true},
		},
		"\x05\x00\x00\x00\x01\x00\xfd\x00\x01\x00\xfd\xff\x00\x01\x00\x00\x00\xff\x03\xfd\xff\x00\x01\xff\xfd\x00\x01\x00\x00\x00\x01\x00\x04\xfd\x2c\x01\x02\x01\x00\x00\x01" +
			"\x00\x01\x00\x00\x00\xfe\x70\x11\x01\x00\x01\x00\x41\x00\x01\x02\x03\x04\x01\x01\x01w\x01\x01",
		70812, 1222289902,
	},
}

// coinParts are the parts of the bytes of coins, be they valid or not, as the document puts them one behind the other.
func coinParts(list []impl.Coin) []txPart {
	number := func(n int) txPart { return txPart{s: numBytes(n), n: n, isNumber: true} }
	parts := []txPart{number(len(list))}
	for _, c := range list {
		last := txPart{s: "\x00"}
		if c.Reward {
			last.s = "\x01"
		}
		parts = append(parts, txPart{s: fourBytes(c.Tx)}, number(c.Out), number(c.Amount), number(len(c.Lock)), txPart{s: c.Lock}, number(c.Height), last)
	}
	return parts
}

// coinsBytesOf are the bytes of coins, be they valid or not.
func coinsBytesOf(list []impl.Coin) string {
	return joined(coinParts(list))
}

// coinRank ascends as the Tx and the Out of coins that are valid do, there being six outputs at most.
func coinRank(c impl.Coin) int {
	return 6*c.Tx + c.Out
}

// coinIsOk tells whether a coin is valid: the rules of the document, written down a second time.
func coinIsOk(c impl.Coin) bool {
	return c.Tx >= 0 && c.Tx < 1<<32 && c.Out >= 0 && c.Out <= 5 && c.Amount > 0 && c.Amount <= 1000000 && len(c.Lock) <= 300 && c.Height >= 0 && c.Height < 10000
}

// coinsAreOk tells whether coins are valid.
func coinsAreOk(list []impl.Coin) bool {
	last := -1
	for _, c := range list {
		if !coinIsOk(c) || coinRank(c) <= last {
			return false
		}
		last = coinRank(c)
	}
	return len(list) <= 80
}

// areWritableCoins tells whether the numbers of coins can be written, be they valid or not.
func areWritableCoins(list []impl.Coin) bool {
	canBe := func(n int) bool { return n >= 0 && n <= impl.NumTop }
	return !slices.ContainsFunc(list, func(c impl.Coin) bool {
		return !canBe(c.Tx) || !canBe(c.Out) || !canBe(c.Amount) || !canBe(c.Height)
	})
}

// coinsFrom are the coins of which a string is the bytes, if there are such coins: the string is read in a sloppy way,
// and what was read is held against the rules and the string.
func coinsFrom(s string) ([]impl.Coin, bool) {
	r := &sloppyReader{s}
	var list []impl.Coin
	for range min(r.number(), 81) {
		c := impl.Coin{Tx: int(binary.BigEndian.Uint32([]byte(r.take(4)))), Out: r.number(), Amount: r.number()}
		c.Lock = r.take(r.number())
		c.Height = r.number()
		c.Reward = r.take(1) == "\x01"
		list = append(list, c)
	}
	return list, coinsAreOk(list) && coinsBytesOf(list) == s
}

// toldCoins is the beginning of what is told of coins that are not as they must be.
func toldCoins(list []impl.Coin) string {
	s := fmt.Sprintf("%d coins %#v", len(list), list[:min(len(list), 90)])
	return s[:min(len(s), 400)]
}

// plainCoin is a coin with these numbers and a lock.
func plainCoin(tx int, out int) impl.Coin {
	return impl.Coin{Tx: tx, Out: out, Amount: 10 + out, Lock: "lock", Height: 7}
}

// plainCoins are coins with these pairs of a Tx and an Out, in this order.
func plainCoins(numbers ...int) []impl.Coin {
	var list []impl.Coin
	for i := 0; i < len(numbers); i += 2 {
		list = append(list, plainCoin(numbers[i], numbers[i+1]))
	}
	return list
}

// rowOfCoins are n valid coins of different transactions, every second one that of a reward.
func rowOfCoins(n int) []impl.Coin {
	var list []impl.Coin
	for i := range n {
		list = append(list, impl.Coin{Tx: 1000 + 10*i, Out: i % 6, Amount: 100 + i, Lock: fmt.Sprint("lock ", i), Height: i, Reward: i%2 == 1})
	}
	return list
}

// closeCoins are n valid coins, six of each transaction.
func closeCoins(n int) []impl.Coin {
	var list []impl.Coin
	for i := range n {
		list = append(list, impl.Coin{Tx: 20 + i/6, Out: i % 6, Amount: 1000 - i, Height: 9999 - i})
	}
	return list
}

// richCoins are n valid coins all of which have all that a coin can have.
func richCoins(n int) []impl.Coin {
	var list []impl.Coin
	for i := range n {
		list = append(list, impl.Coin{Tx: impl.NumTop - n + 1 + i, Out: 5, Amount: 1000000, Lock: strings.Repeat("L", 300), Height: 9999, Reward: true})
	}
	return list
}

// randomCoin is a valid coin whose Tx is below top.
func randomCoin(r *rand.Rand, top int) impl.Coin {
	lock := make([]byte, r.Intn([]int{1, 5, 60, 301}[r.Intn(4)]))
	r.Read(lock)
	return impl.Coin{Tx: r.Intn(top), Out: r.Intn(6), Amount: 1 + r.Intn([]int{1, 252, 1 << 10, 1000000}[r.Intn(4)]), Lock: string(lock), Height: r.Intn([]int{1, 253, 10000}[r.Intn(3)]), Reward: r.Intn(2) == 0}
}

// randomCoins are valid coins, at most most of them.
func randomCoins(r *rand.Rand, most int) []impl.Coin {
	n, top := r.Intn(most+1), []int{1, 2, 5, 20, 1 << 16, 1 << 32}[r.Intn(6)]
	var list []impl.Coin
	for range n {
		list = append(list, randomCoin(r, top))
	}
	return orderedCoins(list)
}

// orderedCoins are coins in order, in new memory; of several with the same Tx and Out only one is left.
func orderedCoins(list []impl.Coin) []impl.Coin {
	own := slices.Clone(list)
	slices.SortStableFunc(own, func(a impl.Coin, b impl.Coin) int { return coinRank(a) - coinRank(b) })
	return slices.CompactFunc(own, func(a impl.Coin, b impl.Coin) bool { return coinRank(a) == coinRank(b) })
}

// withoutCoin are coins without the one at a place in the list, in new memory.
func withoutCoin(list []impl.Coin, i int) []impl.Coin {
	return slices.Delete(slices.Clone(list), i, i+1)
}

// changedCoins are coins after a change of the one at a place in the list, in new memory.
func changedCoins(list []impl.Coin, i int, change func(c *impl.Coin)) []impl.Coin {
	own := slices.Clone(list)
	change(&own[i])
	return own
}

// fewCoins are valid coins whose bytes are few.
func fewCoins() [][]impl.Coin {
	return [][]impl.Coin{
		nil, {}, {{Amount: 1}}, {{Amount: 1, Reward: true}}, rowOfCoins(1), rowOfCoins(2), rowOfCoins(3), closeCoins(2), closeCoins(7), fixedCoins[6].list,
		plainCoins(0, 0, 0, 1, 0, 5, 1, 0), plainCoins(1, 5, 2, 0), plainCoins(0, 0, impl.NumTop, 5), plainCoins(1, 2, 2, 1), plainCoins(255, 0, 256, 0), plainCoins(3, 0, 3, 3, 3, 5),
	}
}

// someCoins are valid coins.
func someCoins() [][]impl.Coin {
	lists := append(fewCoins(), richCoins(1), richCoins(2), richCoins(79), richCoins(80), fixedCoins[3].list, fixedCoins[5].list)
	for _, n := range []int{4, 5, 6, 8, 12, 13, 40, 64, 78, 79, 80} {
		lists = append(lists, rowOfCoins(n), closeCoins(n))
	}
	r := rand.New(rand.NewSource(14))
	for range 60 {
		lists = append(lists, randomCoins(r, []int{3, 10, 80}[r.Intn(3)]))
	}
	return lists
}

// coinChange is a change of a coin, and whether the coin is valid behind it.
type coinChange struct {
	isOk   bool
	change func(c *impl.Coin)
}

// coinChanges are changes of each field of a coin but its Tx and Out, at the limits and beyond them.
func coinChanges() []coinChange {
	var list []coinChange
	add := func(isOk bool, change func(c *impl.Coin)) { list = append(list, coinChange{isOk, change}) }
	for _, amount := range someAmounts {
		add(true, func(c *impl.Coin) { c.Amount = amount })
	}
	for _, no := range noAmounts {
		add(false, func(c *impl.Coin) { c.Amount = no })
	}
	for _, n := range lockLengths {
		add(true, func(c *impl.Coin) { c.Lock = strings.Repeat("\xfd", n) })
		add(true, func(c *impl.Coin) { c.Lock = strings.Repeat("ä", n/2) })
	}
	for _, n := range noLockLengths {
		add(false, func(c *impl.Coin) { c.Lock = strings.Repeat("l", n) })
		add(false, func(c *impl.Coin) { c.Lock = strings.Repeat("ä", n/2+1) })
	}
	for _, height := range lockHeights {
		add(true, func(c *impl.Coin) { c.Height = height })
	}
	for _, no := range noHeights {
		add(false, func(c *impl.Coin) { c.Height = no })
	}
	add(true, func(c *impl.Coin) { c.Reward = true })
	add(true, func(c *impl.Coin) { c.Reward = false })
	return list
}

// placeChanges are changes of the Tx and the Out of a coin with which it is not valid, be the order as it may.
func placeChanges() []coinChange {
	var list []coinChange
	for _, no := range noDigests {
		list = append(list, coinChange{false, func(c *impl.Coin) { c.Tx = no }})
	}
	for _, no := range noOutIndexes {
		list = append(list, coinChange{false, func(c *impl.Coin) { c.Out = no }})
	}
	return list
}

// noCoins are coins that are not valid: too many, in a wrong order, or one of them is not valid.
func noCoins() [][]impl.Coin {
	lists := [][]impl.Coin{rowOfCoins(81), closeCoins(81), richCoins(81), rowOfCoins(82), rowOfCoins(160), rowOfCoins(80 + 256), slices.Repeat([]impl.Coin{plainCoin(1, 1)}, 100000), closeCoins(100000)}
	for _, numbers := range [][]int{
		{1, 0, 0, 0}, {5, 2, 4, 3}, {5, 2, 4, 2}, {3, 1, 3, 0}, {3, 5, 3, 4}, {3, 2, 3, 2}, {0, 0, 0, 0}, {impl.NumTop, 5, impl.NumTop, 5}, {impl.NumTop, 0, 0, 0}, {256, 0, 1, 0}, {1 << 31, 0, 1, 0}, {1 << 16, 0, 255, 5},
		{1, 0, 2, 0, 1, 0}, {1, 0, 1, 1, 1, 0}, {1, 0, 2, 0, 2, 0}, {1, 0, 1, 0, 2, 0}, {1, 0, 3, 0, 2, 0}, {2, 0, 1, 0, 3, 0}, {1, 0, 3, 0, 2, 0, 4, 0}, {3, 0, 2, 1, 1, 2}, {1, 2, 1, 1, 1, 0}, {1, 0, 1, 2, 1, 1}, {1, 5, 2, 4, 2, 3}, {1, 3, 2, 2, 3, 1, 3, 0},
	} {
		lists = append(lists, plainCoins(numbers...))
	}
	for _, list := range [][]impl.Coin{rowOfCoins(1), rowOfCoins(2), closeCoins(9)} {
		for i := range list {
			for _, c := range append(coinChanges(), placeChanges()...) {
				if !c.isOk {
					lists = append(lists, changedCoins(list, i, c.change))
				}
			}
		}
	}
	return lists
}

// coinPlaces are pairs of a Tx and an Out: those of coins, those beside them, and such as no coin has.
func coinPlaces(list []impl.Coin) [][2]int {
	places := [][2]int{{0, 0}, {0, -1}, {-1, 0}, {-1, 5}, {1, -6}, {math.MinInt, 0}, {math.MaxInt, 0}, {0, math.MinInt}, {0, math.MaxInt}, {impl.NumTop, 5}, {impl.NumTop, 6}, {impl.NumTop + 1, 0}, {77, 3}}
	for _, c := range list[:min(len(list), 90)] {
		for _, more := range []int{-1, 0, 1} {
			places = append(places, [2]int{c.Tx, c.Out + more}, [2]int{c.Tx + more, c.Out})
		}
		places = append(places, [2]int{c.Out, c.Tx}, [2]int{c.Tx - 1, c.Out + 6}, [2]int{c.Tx + 1, c.Out - 6}, [2]int{c.Tx + 1<<32, c.Out}, [2]int{c.Tx, c.Out + 256})
	}
	return places
}

// refusesToReadCoins tells where CoinsRead is not false without coins.
func refusesToReadCoins(t *testing.T, s string) {
	t.Helper()
	if list, ok := impl.CoinsRead(s); ok || len(list) != 0 {
		t.Errorf("CoinsRead(%.200x) is %s, %t", s, toldCoins(list), ok)
	}
}

// coinAt is where in valid coins that with a Tx and an Out stands, or -1.
func coinAt(list []impl.Coin, tx int, out int) int {
	if !coinsAreOk(list) {
		return -1
	}
	return slices.IndexFunc(list, func(c impl.Coin) bool { return c.Tx == tx && c.Out == out })
}

// findIsRight tells where CoinsFind is not as the document tells.
func findIsRight(t *testing.T, list []impl.Coin, tx int, out int) {
	t.Helper()
	var want impl.Coin
	at := coinAt(list, tx, out)
	if at >= 0 {
		want = list[at]
	}
	if got, ok := impl.CoinsFind(list, tx, out); ok != (at >= 0) || got != want {
		t.Errorf("CoinsFind(%s, %d, %d) is %#v, %t, want %#v", toldCoins(list), tx, out, got, ok, want)
	}
}

// spendIsRight tells where CoinsSpend is not as the document tells, and whether there is such a coin.
func spendIsRight(t *testing.T, list []impl.Coin, tx int, out int) bool {
	t.Helper()
	var want []impl.Coin
	var coin impl.Coin
	at := coinAt(list, tx, out)
	if at >= 0 {
		want, coin = withoutCoin(list, at), list[at]
	}
	if got, c, ok := impl.CoinsSpend(list, tx, out); ok != (at >= 0) || c != coin || !slices.Equal(got, want) {
		t.Errorf("CoinsSpend(%s, %d, %d) is %s, %#v, %t, want %s, %#v", toldCoins(list), tx, out, toldCoins(got), c, ok, toldCoins(want), coin)
	}
	return at >= 0
}

// addIsRight tells where CoinsAdd is not as the document tells, and whether the coin can be added.
func addIsRight(t *testing.T, list []impl.Coin, c impl.Coin) bool {
	t.Helper()
	want := orderedCoins(append(slices.Clone(list), c))
	can := coinsAreOk(list) && coinsAreOk(want) && len(want) == len(list)+1
	if !can {
		want = nil
	}
	if got, ok := impl.CoinsAdd(list, c); ok != can || !slices.Equal(got, want) {
		t.Errorf("CoinsAdd(%s, %#v) is %s, %t, want %s, %t", toldCoins(list), c, toldCoins(got), ok, toldCoins(want), can)
	}
	return can
}

// refusesCoins tells where coins that are not valid are taken.
func refusesCoins(t *testing.T, list []impl.Coin) {
	t.Helper()
	if impl.CoinsOk(list) {
		t.Errorf("CoinsOk(%s) is true", toldCoins(list))
	}
	if sum := impl.CoinsSum(list); sum != -1 {
		t.Errorf("CoinsSum(%s) is %d", toldCoins(list), sum)
	}
	if s, ok := impl.CoinsBytes(list); ok || s != "" {
		t.Errorf("CoinsBytes(%s) is %.200x, %t", toldCoins(list), s, ok)
	}
	if d := impl.CoinsDigest(list); d != -1 {
		t.Errorf("CoinsDigest(%s) is %d", toldCoins(list), d)
	}
	for _, p := range coinPlaces(list[:min(len(list), 5)]) {
		if c, ok := impl.CoinsFind(list, p[0], p[1]); ok || c != (impl.Coin{}) {
			t.Errorf("CoinsFind(%s, %d, %d) is %#v, %t", toldCoins(list), p[0], p[1], c, ok)
		}
		if rest, c, ok := impl.CoinsSpend(list, p[0], p[1]); ok || c != (impl.Coin{}) || len(rest) != 0 {
			t.Errorf("CoinsSpend(%s, %d, %d) is %s, %#v, %t", toldCoins(list), p[0], p[1], toldCoins(rest), c, ok)
		}
		if more, ok := impl.CoinsAdd(list, plainCoin(p[0], p[1])); ok || len(more) != 0 {
			t.Errorf("CoinsAdd(%s) of the coin %d, %d is %s, %t", toldCoins(list), p[0], p[1], toldCoins(more), ok)
		}
	}
	if areWritableCoins(list) {
		refusesToReadCoins(t, coinsBytesOf(list))
	}
}

// coinsAreRight tells where the functions do not tell of coins what the document does, and whether they are valid.
func coinsAreRight(t *testing.T, list []impl.Coin) bool {
	t.Helper()
	if !coinsAreOk(list) {
		refusesCoins(t, list)
		return false
	}
	s, sum := coinsBytesOf(list), 0
	for _, c := range list {
		sum += c.Amount
	}
	if !impl.CoinsOk(list) {
		t.Errorf("CoinsOk(%s) is false", toldCoins(list))
	}
	if got := impl.CoinsSum(list); got != sum {
		t.Errorf("CoinsSum(%s) is %d, want %d", toldCoins(list), got, sum)
	}
	if got, ok := impl.CoinsBytes(list); !ok || got != s {
		t.Errorf("CoinsBytes(%s) is %.200x, %t, want %.200x", toldCoins(list), got, ok, s)
	}
	if got, want := impl.CoinsDigest(list), impl.Digest(s); got != want {
		t.Errorf("CoinsDigest(%s) is %d, want %d", toldCoins(list), got, want)
	}
	if got, ok := impl.CoinsRead(s); !ok || !slices.Equal(got, list) {
		t.Errorf("CoinsRead of CoinsBytes(%s) is %s, %t", toldCoins(list), toldCoins(got), ok)
	}
	return true
}

// areTaken tells where coins are not taken as valid, or taken as valid, against what is wanted.
func areTaken(t *testing.T, list []impl.Coin, want bool) {
	t.Helper()
	if coinsAreRight(t, list) != want {
		t.Errorf("%s are valid: %t", toldCoins(list), !want)
	}
}

// coinsReadRight tells where a string is not read as the document tells, and whether it is the bytes of coins.
func coinsReadRight(t *testing.T, s string) bool {
	t.Helper()
	want, ok := coinsFrom(s)
	if !ok {
		refusesToReadCoins(t, s)
		return false
	}
	if got, ok := impl.CoinsRead(s); !ok || !slices.Equal(got, want) {
		t.Errorf("CoinsRead(%.200x) is %s, %t, want %s", s, toldCoins(got), ok, toldCoins(want))
	}
	if again, ok := impl.CoinsBytes(want); !ok || again != s {
		t.Errorf("CoinsBytes of CoinsRead(%.200x) is %.200x, %t", s, again, ok)
	}
	return true
}

func TestCoinsThatWereWrittenByHand(t *testing.T) {
	for _, c := range fixedCoins {
		if got, ok := impl.CoinsBytes(c.list); !ok || got != c.bytes {
			t.Errorf("CoinsBytes(%v) is %x, %t, want %x", c.list, got, ok, c.bytes)
		}
		if got, ok := impl.CoinsRead(c.bytes); !ok || !slices.Equal(got, c.list) {
			t.Errorf("CoinsRead(%x) is %v, %t, want %v", c.bytes, got, ok, c.list)
		}
		if got := impl.CoinsSum(c.list); got != c.sum {
			t.Errorf("CoinsSum(%v) is %d, want %d", c.list, got, c.sum)
		}
		if got := impl.CoinsDigest(c.list); got != c.digest {
			t.Errorf("CoinsDigest(%v) is %d, want %d", c.list, got, c.digest)
		}
		areTaken(t, c.list, true)
	}
}

func TestCoinsOkOfNumbersOfCoins(t *testing.T) {
	for n := range 200 {
		areTaken(t, rowOfCoins(n), n <= 80)
		areTaken(t, closeCoins(n), n <= 80)
		areTaken(t, richCoins(n), n <= 80)
	}
	for _, n := range []int{252, 253, 256, 256 + 80, 65536, 65536 + 1, 1000000} {
		areTaken(t, closeCoins(n), false)
	}
	areTaken(t, nil, true)
	areTaken(t, []impl.Coin{}, true)
	areTaken(t, []impl.Coin{{}}, false)
}

func TestCoinsOkOfFieldsAtTheirLimits(t *testing.T) {
	for _, list := range [][]impl.Coin{{{Amount: 1}}, rowOfCoins(1), rowOfCoins(3), closeCoins(8), rowOfCoins(80)} {
		for i := range list {
			if len(list) == 80 && i%13 != 1 && i != 79 {
				continue
			}
			for _, c := range coinChanges() {
				areTaken(t, changedCoins(list, i, c.change), c.isOk)
			}
			for _, c := range placeChanges() {
				areTaken(t, changedCoins(list, i, c.change), false)
			}
		}
	}
	for _, d := range []int{-1, 0, 1, 255, 256, 1 << 31, 4294967294, 4294967295, 4294967296} {
		for out := -2; out < 9; out++ {
			isOk := d >= 0 && d <= 4294967295 && out >= 0 && out <= 5
			areTaken(t, plainCoins(d, out), isOk)
			areTaken(t, []impl.Coin{{Tx: d, Out: out, Amount: 1, Reward: true}}, isOk)
		}
	}
	for n := -20; n < 10300; n++ {
		areTaken(t, []impl.Coin{{Tx: 5, Amount: 1, Height: n}}, n >= 0 && n <= 9999)
		areTaken(t, []impl.Coin{{Tx: 5, Amount: n}}, n >= 1)
		areTaken(t, []impl.Coin{{Tx: 5, Amount: 990000 + n}}, n <= 10000)
	}
	for n := range 700 {
		areTaken(t, []impl.Coin{{Tx: 5, Amount: 1, Lock: strings.Repeat("l", n)}}, n <= 300)
	}
}

func TestCoinsOkOfOrders(t *testing.T) {
	digests := []int{0, 1, 2, 255, 256, 65535, 65536, 1<<31 - 1, 1 << 31, impl.NumTop - 1, impl.NumTop}
	for i, a := range digests {
		for k, b := range digests {
			for x := range 6 {
				for y := range 6 {
					areTaken(t, plainCoins(a, x, b, y), i < k || i == k && x < y)
				}
			}
		}
	}
	for n := range 6 * 6 * 6 * 6 {
		a, b, c, d := n%6, n/6%6, n/36%6, n/216
		areTaken(t, plainCoins(3, a, 3, b, 3, c, 3, d), a < b && b < c && c < d)
		areTaken(t, plainCoins(a, 3, b, 3, c, 3, d, 3), a < b && b < c && c < d)
		areTaken(t, plainCoins(a, 5, b, 4, c, 3, d, 2), a < b && b < c && c < d)
		areTaken(t, plainCoins(a, b, c, d), a < c || a == c && b < d)
	}
	for _, list := range [][]impl.Coin{rowOfCoins(80), closeCoins(80), closeCoins(13), rowOfCoins(5)} {
		for i := range list {
			for _, k := range []int{0, i - 1, i + 1, len(list) - 1 - i, len(list) - 1} {
				if k < 0 || k >= len(list) || k == i {
					continue
				}
				areTaken(t, changedCoins(list, i, func(c *impl.Coin) { c.Tx, c.Out = list[k].Tx, list[k].Out }), false)
				areTaken(t, changedCoins(list, i, func(c *impl.Coin) { *c = list[k] }), false)
				exchanged := slices.Clone(list)
				exchanged[i], exchanged[k] = exchanged[k], exchanged[i]
				areTaken(t, exchanged, false)
			}
		}
	}
	for _, list := range noCoins() {
		areTaken(t, list, false)
	}
}

func TestCoinsOkOfRandomCoins(t *testing.T) {
	r := rand.New(rand.NewSource(87))
	taken, not := 0, 0
	for range 4000 {
		list := randomCoins(r, []int{3, 10, 80}[r.Intn(3)])
		if len(list) > 1 && r.Intn(2) == 0 {
			breakCoins(r, list)
		}
		if coinsAreRight(t, list) {
			taken++
		} else {
			not++
		}
	}
	if taken < 1000 || not < 1000 {
		t.Errorf("%d lists of coins of %d are valid", taken, taken+not)
	}
}

// breakCoins puts something into coins with which they are not valid in most cases.
func breakCoins(r *rand.Rand, list []impl.Coin) {
	i, k := r.Intn(len(list)), r.Intn(len(list))
	no := []int{-1, 0, 5, 6, 9999, 10000, 1000000, 1000001, impl.NumTop, impl.NumTop + 1, math.MaxInt, math.MinInt}[r.Intn(12)]
	switch r.Intn(7) {
	case 0:
		list[i], list[k] = list[k], list[i]
	case 1:
		list[i].Tx, list[i].Out = list[k].Tx, list[k].Out
	case 2:
		list[i].Lock = strings.Repeat("b", 299+r.Intn(4))
	case 3:
		list[i].Tx = no
	case 4:
		list[i].Out = no
	case 5:
		list[i].Amount = no
	default:
		list[i].Height = no
	}
}

func TestP87EachCoinIsFound(t *testing.T) {
	for _, list := range someCoins() {
		for _, c := range list {
			if got, ok := impl.CoinsFind(list, c.Tx, c.Out); !ok || got != c {
				t.Errorf("CoinsFind(%s, %d, %d) is %#v, %t, want %#v", toldCoins(list), c.Tx, c.Out, got, ok, c)
			}
		}
	}
}

func TestP88CoinsFindHasTheTxAndTheOut(t *testing.T) {
	for _, list := range someCoins() {
		found := map[impl.Coin]bool{}
		for _, p := range coinPlaces(list) {
			findIsRight(t, list, p[0], p[1])
			c, ok := impl.CoinsFind(list, p[0], p[1])
			if ok && (c.Tx != p[0] || c.Out != p[1]) {
				t.Errorf("CoinsFind(%s, %d, %d) is %#v", toldCoins(list), p[0], p[1], c)
			}
			if ok {
				found[c] = true
			}
		}
		if len(found) != len(list) {
			t.Errorf("of %s %d are found", toldCoins(list), len(found))
		}
	}
}

func TestCoinsFindOfCoinsThatAreNotThere(t *testing.T) {
	list := plainCoins(5, 1, 5, 3, 9, 0, 9, 5, 12, 2)
	for tx := -3; tx < 20; tx++ {
		for out := -3; out < 10; out++ {
			findIsRight(t, list, tx, out)
			want := slices.Contains([][2]int{{5, 1}, {5, 3}, {9, 0}, {9, 5}, {12, 2}}, [2]int{tx, out})
			if c, ok := impl.CoinsFind(list, tx, out); ok != want || !ok && c != (impl.Coin{}) || ok && c != plainCoin(tx, out) {
				t.Errorf("CoinsFind of %d, %d is %#v, %t", tx, out, c, ok)
			}
			findIsRight(t, nil, tx, out)
			findIsRight(t, closeCoins(80), tx+20, out)
		}
	}
}

func TestCoinsAddAtEachPlace(t *testing.T) {
	for _, list := range someCoins() {
		for i, c := range list {
			fewer := withoutCoin(list, i)
			if got, ok := impl.CoinsAdd(fewer, c); !ok || !slices.Equal(got, list) {
				t.Errorf("CoinsAdd(%s, %#v) is %s, %t, want %s", toldCoins(fewer), c, toldCoins(got), ok, toldCoins(list))
			}
		}
		for _, p := range coinPlaces(list) {
			addIsRight(t, list, plainCoin(p[0], p[1]))
		}
	}
	for _, c := range []struct {
		list []impl.Coin
		coin impl.Coin
		want []impl.Coin
	}{
		{nil, plainCoin(5, 1), plainCoins(5, 1)},
		{plainCoins(5, 1), plainCoin(5, 0), plainCoins(5, 0, 5, 1)},
		{plainCoins(5, 1), plainCoin(4, 5), plainCoins(4, 5, 5, 1)},
		{plainCoins(5, 1), plainCoin(5, 2), plainCoins(5, 1, 5, 2)},
		{plainCoins(5, 1), plainCoin(6, 0), plainCoins(5, 1, 6, 0)},
		{plainCoins(5, 1, 5, 3), plainCoin(5, 2), plainCoins(5, 1, 5, 2, 5, 3)},
		{plainCoins(5, 1, 7, 1), plainCoin(6, 1), plainCoins(5, 1, 6, 1, 7, 1)},
		{plainCoins(5, 5, 7, 0), plainCoin(7, 1), plainCoins(5, 5, 7, 0, 7, 1)},
		{plainCoins(9, 0), plainCoin(10, 0), plainCoins(9, 0, 10, 0)},
		{plainCoins(0, 0, impl.NumTop, 5), plainCoin(1<<31, 3), plainCoins(0, 0, 1<<31, 3, impl.NumTop, 5)},
	} {
		if got, ok := impl.CoinsAdd(c.list, c.coin); !ok || !slices.Equal(got, c.want) {
			t.Errorf("CoinsAdd(%v, %v) is %v, %t, want %v", c.list, c.coin, got, ok, c.want)
		}
	}
}

func TestCoinsAddInAnyOrder(t *testing.T) {
	r := rand.New(rand.NewSource(89))
	for range 40 {
		want := randomCoins(r, 80)
		var list []impl.Coin
		for _, i := range r.Perm(len(want)) {
			addIsRight(t, list, want[i])
			list, _ = impl.CoinsAdd(list, want[i])
		}
		if !slices.Equal(list, want) {
			t.Errorf("coins that are added one by one are %s, want %s", toldCoins(list), toldCoins(want))
		}
		for _, i := range r.Perm(len(want)) {
			spendIsRight(t, list, want[i].Tx, want[i].Out)
			list, _, _ = impl.CoinsSpend(list, want[i].Tx, want[i].Out)
		}
		if len(list) != 0 {
			t.Errorf("%s are left, all having been spent", toldCoins(list))
		}
	}
}

func TestCoinsAddRefusesCoinsThatAreNotValid(t *testing.T) {
	for _, list := range [][]impl.Coin{nil, plainCoins(0, 0), plainCoins(0, 0, 0, 5, 3, 3, impl.NumTop, 5), rowOfCoins(79), closeCoins(78), rowOfCoins(80)} {
		for _, change := range append(coinChanges(), placeChanges()...) {
			for _, c := range plainCoins(0, 1, 0, 2, 3, 2, 1999, 5, impl.NumTop, 4) {
				change.change(&c)
				if can := addIsRight(t, list, c); can != (change.isOk && len(list) < 80) {
					t.Errorf("CoinsAdd of %.300v to %s is %t", c, toldCoins(list), can)
				}
			}
		}
		addIsRight(t, list, impl.Coin{})
		addIsRight(t, list, impl.Coin{Tx: 5})
	}
}

func TestCoinsAddRefusesCoinsThatAreThere(t *testing.T) {
	for _, list := range someCoins() {
		for _, c := range list {
			for _, change := range append(coinChanges()[:5], coinChange{true, func(c *impl.Coin) { c.Amount = c.Amount%1000000 + 1 }}, coinChange{true, func(c *impl.Coin) { c.Reward = !c.Reward }}, coinChange{true, func(c *impl.Coin) { *c = plainCoin(c.Tx, c.Out) }}, coinChange{true, func(c *impl.Coin) {}}) {
				other := c
				change.change(&other)
				if got, ok := impl.CoinsAdd(list, other); ok || len(got) != 0 {
					t.Errorf("CoinsAdd(%s, %#v) is %s, %t", toldCoins(list), other, toldCoins(got), ok)
				}
			}
		}
	}
}

func TestCoinsAddToManyCoins(t *testing.T) {
	for n := 70; n < 90; n++ {
		for _, list := range [][]impl.Coin{rowOfCoins(n), closeCoins(n), richCoins(n)} {
			for _, c := range plainCoins(0, 0, 7, 5, 1005, 0, 1999, 3, 1<<31, 0, impl.NumTop, 4) {
				if can := addIsRight(t, list, c); can != (n < 80) {
					t.Errorf("CoinsAdd of %#v to %d coins is %t", c, n, can)
				}
			}
		}
	}
}

func TestCoinsAddToCoinsThatAreNotValid(t *testing.T) {
	for _, list := range noCoins() {
		for _, c := range plainCoins(0, 0, 2, 2, 7, 0, 500, 5, impl.NumTop, 4) {
			if addIsRight(t, list, c) {
				t.Errorf("CoinsAdd of %#v to %s is true", c, toldCoins(list))
			}
		}
	}
}

func TestP89CoinsSpendOfCoinsAdd(t *testing.T) {
	for _, list := range someCoins() {
		coins := plainCoins(0, 0, 3, 1, 3, 4, 22, 2, 1004, 5, 1500, 0, 1<<31, 5, impl.NumTop, 4)
		for _, c := range append(coins, impl.Coin{Tx: 77, Out: 3, Amount: 1000000, Lock: strings.Repeat("l", 300), Height: 9999, Reward: true}) {
			more, ok := impl.CoinsAdd(list, c)
			if _, there := impl.CoinsFind(list, c.Tx, c.Out); ok == there && len(list) < 80 || ok && len(list) >= 80 {
				t.Errorf("CoinsAdd(%s, %#v) is %s, %t", toldCoins(list), c, toldCoins(more), ok)
			}
			if !ok {
				continue
			}
			if rest, spent, ok := impl.CoinsSpend(more, c.Tx, c.Out); !ok || spent != c || !slices.Equal(rest, list) {
				t.Errorf("CoinsSpend of CoinsAdd(%s, %#v) is %s, %#v, %t", toldCoins(list), c, toldCoins(rest), spent, ok)
			}
			if !impl.CoinsOk(more) || impl.CoinsSum(more) != impl.CoinsSum(list)+c.Amount {
				t.Errorf("CoinsAdd(%s, %#v) is %s, whose sum is %d", toldCoins(list), c, toldCoins(more), impl.CoinsSum(more))
			}
		}
	}
}

func TestP90CoinsAddOfCoinsSpend(t *testing.T) {
	for _, list := range someCoins() {
		for _, c := range list {
			rest, spent, ok := impl.CoinsSpend(list, c.Tx, c.Out)
			if !ok || spent != c {
				t.Errorf("CoinsSpend(%s, %d, %d) is %s, %#v, %t", toldCoins(list), c.Tx, c.Out, toldCoins(rest), spent, ok)
			}
			if again, ok := impl.CoinsAdd(rest, spent); !ok || !slices.Equal(again, list) {
				t.Errorf("CoinsAdd of CoinsSpend(%s, %d, %d) is %s, %t", toldCoins(list), c.Tx, c.Out, toldCoins(again), ok)
			}
			if !impl.CoinsOk(rest) || impl.CoinsSum(rest) != impl.CoinsSum(list)-c.Amount {
				t.Errorf("CoinsSpend(%s, %d, %d) is %s, whose sum is %d", toldCoins(list), c.Tx, c.Out, toldCoins(rest), impl.CoinsSum(rest))
			}
			if spendIsRight(t, rest, c.Tx, c.Out) {
				t.Errorf("%#v is spent twice", c)
			}
		}
	}
}

func TestCoinsSpendAtEachPlace(t *testing.T) {
	for _, list := range someCoins() {
		spent := map[[2]int]bool{}
		for _, p := range coinPlaces(list) {
			if spendIsRight(t, list, p[0], p[1]) {
				spent[p] = true
			}
		}
		if len(spent) != len(list) {
			t.Errorf("of %s %d can be spent", toldCoins(list), len(spent))
		}
	}
	list := plainCoins(5, 1, 5, 3, 9, 0)
	for _, c := range []struct {
		tx, out int
		want    []impl.Coin
	}{{5, 1, plainCoins(5, 3, 9, 0)}, {5, 3, plainCoins(5, 1, 9, 0)}, {9, 0, plainCoins(5, 1, 5, 3)}} {
		if got, spent, ok := impl.CoinsSpend(list, c.tx, c.out); !ok || spent != plainCoin(c.tx, c.out) || !slices.Equal(got, c.want) {
			t.Errorf("CoinsSpend of %d, %d is %v, %v, %t, want %v", c.tx, c.out, got, spent, ok, c.want)
		}
	}
	if got, spent, ok := impl.CoinsSpend(plainCoins(5, 1), 5, 1); !ok || spent != plainCoin(5, 1) || len(got) != 0 {
		t.Errorf("CoinsSpend of the only coin is %v, %v, %t", got, spent, ok)
	}
	for tx := -3; tx < 20; tx++ {
		for out := -3; out < 10; out++ {
			spendIsRight(t, list, tx, out)
			spendIsRight(t, nil, tx, out)
		}
	}
}

func TestCoinsThatAreNotValidAreNeitherFoundNorSpent(t *testing.T) {
	for _, list := range noCoins() {
		for _, p := range coinPlaces(list[:min(len(list), 12)]) {
			findIsRight(t, list, p[0], p[1])
			if spendIsRight(t, list, p[0], p[1]) {
				t.Errorf("of %s that of %d, %d is spent", toldCoins(list), p[0], p[1])
			}
		}
	}
}

func TestP91CoinsSumIsThatOfTheOthersAndTheFirst(t *testing.T) {
	for _, list := range someCoins() {
		for i := range list {
			if sum := impl.CoinsSum(list[i:]); sum != list[i].Amount+impl.CoinsSum(list[i+1:]) || sum < 1 {
				t.Errorf("CoinsSum(%s) is %d", toldCoins(list[i:]), sum)
			}
		}
	}
	for _, c := range []struct {
		list []impl.Coin
		want int
	}{
		{nil, 0}, {[]impl.Coin{}, 0}, {[]impl.Coin{{Amount: 1}}, 1}, {richCoins(1), 1000000}, {richCoins(80), 80000000}, {richCoins(81), -1}, {rowOfCoins(80), 11160}, {closeCoins(80), 76840}, {closeCoins(81), -1},
		{[]impl.Coin{{Amount: 0}}, -1}, {[]impl.Coin{{Amount: -5}}, -1}, {[]impl.Coin{{Tx: 1, Amount: 5}, {Tx: 2}}, -1}, {[]impl.Coin{{Tx: 1, Amount: 5}, {Tx: 2, Amount: -1}}, -1}, {[]impl.Coin{{Tx: 1, Amount: 1000001}, {Tx: 2, Amount: -1}}, -1},
		{[]impl.Coin{{Tx: 1, Amount: math.MaxInt}, {Tx: 2, Amount: math.MaxInt}, {Tx: 3, Amount: 3}}, -1}, {plainCoins(5, 1, 5, 1), -1}, {plainCoins(5, 1, 4, 1), -1}, {plainCoins(5, 1, 5, 0), -1},
	} {
		if got := impl.CoinsSum(c.list); got != c.want {
			t.Errorf("CoinsSum(%s) is %d, want %d", toldCoins(c.list), got, c.want)
		}
	}
}

func TestP92CoinsReadOfCoinsBytes(t *testing.T) {
	for _, list := range someCoins() {
		s, ok := impl.CoinsBytes(list)
		if !ok {
			t.Fatalf("CoinsBytes(%s) is false", toldCoins(list))
		}
		if got, ok := impl.CoinsRead(s); !ok || !slices.Equal(got, list) {
			t.Errorf("CoinsRead of CoinsBytes(%s) is %s, %t", toldCoins(list), toldCoins(got), ok)
		}
	}
}

func TestP93BytesOneByteAway(t *testing.T) {
	taken, not := 0, 0
	for _, list := range append(fewCoins(), closeCoins(12)) {
		s := coinsBytesOf(list)
		for i := range len(s) + 1 {
			near := []string{s[:i] + s[min(i+1, len(s)):]}
			for b := range 256 {
				near = append(near, s[:i]+string([]byte{byte(b)})+s[i:])
				if i < len(s) {
					near = append(near, changed(s, i, byte(b)))
				}
			}
			for _, other := range near {
				if coinsReadRight(t, other) {
					taken++
				} else {
					not++
				}
			}
		}
	}
	if taken < 1000 || not < 1000 {
		t.Errorf("%d strings of %d are taken", taken, taken+not)
	}
}

func TestP93LongBytesOneByteAway(t *testing.T) {
	r := rand.New(rand.NewSource(93))
	for _, list := range someCoins() {
		s := coinsBytesOf(list)
		for range 60 {
			i, b := r.Intn(len(s)), []byte{0, 1, 2, 5, 6, 79, 80, 81, 252, 253, 254, 255, byte(r.Intn(256))}[r.Intn(13)]
			coinsReadRight(t, changed(s, i, b))
			coinsReadRight(t, s[:i]+string([]byte{b})+s[i:])
			coinsReadRight(t, s[:i]+s[i+1:])
			coinsReadRight(t, s[:i]+s[r.Intn(len(s)):])
		}
	}
}

func TestP93AllStringsOfTheShortestCoins(t *testing.T) {
	for a := range 256 {
		if got := coinsReadRight(t, string([]byte{byte(a)})); got != (a == 0) {
			t.Errorf("CoinsRead of the byte %d is %t", a, got)
		}
	}
	taken := 0
	for a := range 256 {
		for b := range 256 {
			refusesToReadCoins(t, string([]byte{byte(a), byte(b)}))
			if a < 7 || b < 7 {
				coinsReadRight(t, string([]byte{byte(a), 0, 0, 0, 5, byte(b), 7, 0, 0, 0}))
			}
			coinsReadRight(t, string([]byte{1, 0, 0, 0, 5, 0, 7, byte(a), byte(b), 0}))
			coinsReadRight(t, string([]byte{1, 0, 0, 0, 5, 0, 7, byte(a), byte(b), 0, 0}))
			if coinsReadRight(t, string([]byte{1, 0, 0, 0, 5, 2, byte(a), 0, 0, byte(b)})) {
				taken++
			}
			if coinsReadRight(t, string([]byte{1, 0, 0, 0, 5, byte(a), 7, 0, byte(b), 1})) {
				taken++
			}
		}
	}
	if taken != 252*2+6*253 {
		t.Errorf("%d strings of ten bytes are read", taken)
	}
	for _, s := range someBytes() {
		coinsReadRight(t, s)
	}
}

func TestCoinsReadOfBytesThatEndTooEarly(t *testing.T) {
	for _, list := range someCoins() {
		s := coinsBytesOf(list)
		for n := range len(s) {
			if n < 200 || n > len(s)-50 || n%17 == 0 {
				refusesToReadCoins(t, s[:n])
				coinsReadRight(t, s[len(s)-n:])
			}
		}
	}
	longest := coinsBytesOf(richCoins(80))
	for n := range longest {
		refusesToReadCoins(t, longest[:n])
	}
}

func TestCoinsReadOfBytesWithMoreBehind(t *testing.T) {
	for _, list := range someCoins() {
		s := coinsBytesOf(list)
		for b := range 256 {
			refusesToReadCoins(t, s+string([]byte{byte(b)}))
		}
		for _, tail := range append(tails[1:], s, strings.Repeat("\x00", 5000)) {
			refusesToReadCoins(t, s+tail)
		}
	}
}

func TestCoinsReadRefusesNumbersThatAreLongerThanTheyMustBe(t *testing.T) {
	for _, list := range someCoins() {
		parts := coinParts(list)
		for i, p := range parts {
			if !p.isNumber || i > 40 {
				continue
			}
			n := uint32(p.n)
			longer := []string{string(binary.LittleEndian.AppendUint64([]byte{255}, uint64(n))), "\xff" + p.s}
			if n < 65536 {
				longer = append(longer, string(binary.LittleEndian.AppendUint32([]byte{254}, n)), "\xfe"+string([]byte{byte(n), byte(n >> 8)}))
			}
			if n < 253 {
				longer = append(longer, string([]byte{253, byte(n), 0}))
			}
			for _, s := range longer {
				other := slices.Clone(parts)
				other[i].s = s
				refusesToReadCoins(t, joined(other))
			}
		}
	}
}

func TestCoinsReadOfOtherNumbers(t *testing.T) {
	numbers := append(slices.Clone(edgeNums), 2, 3, 4, 5, 6, 7, 12, 79, 80, 81, 82, 301, 9999, 10000, 1000000, 1000001)
	for _, list := range append(fewCoins(), closeCoins(80), rowOfCoins(40), rowOfCoins(80)) {
		parts := coinParts(list)
		for i, p := range parts {
			if !p.isNumber || i > 40 {
				continue
			}
			for _, n := range numbers {
				other := slices.Clone(parts)
				other[i].s = numBytes(n)
				s := joined(other)
				coinsReadRight(t, s)
				coinsReadRight(t, s+strings.Repeat("\x00", 20))
			}
		}
	}
}

func TestCoinsReadOfNumbersOfCoins(t *testing.T) {
	one := "\x00\x00\x00\x05\x02\x07\x01a\x01\x01"
	for _, s := range []string{
		"\x01", "\x02" + one, "\x50" + one, "\x51" + one, "\xfc" + one, "\xfd\x00\x01" + one, "\xfd\xff\xff" + one, "\xfe\xff\xff\xff\xff" + one, "\xfe\xff\xff\xff\xff", "\x00" + one, one, "\xfd\x01\x00" + one, "\xfe\x01\x00\x00\x00" + one, "\xff" + one,
	} {
		refusesToReadCoins(t, s)
		refusesToReadCoins(t, s+"\x00")
		refusesToReadCoins(t, s+strings.Repeat("\x00", 1000))
	}
	for n := 70; n < 90; n++ {
		for more := -10; more <= 10; more++ {
			s := numBytes(n+more) + strings.TrimPrefix(coinsBytesOf(rowOfCoins(n)), numBytes(n))
			if got := coinsReadRight(t, s); got != (more == 0 && n <= 80) {
				t.Errorf("CoinsRead of %d coins, said to be %d, is %t", n, n+more, got)
			}
		}
	}
}

func TestCoinsReadOfLastBytes(t *testing.T) {
	for _, list := range someCoins() {
		parts := coinParts(list)
		for i := range list {
			if i > 3 && i < len(list)-3 {
				continue
			}
			for b := range 256 {
				other := slices.Clone(parts)
				other[7*i+7].s = string([]byte{byte(b)})
				got, ok := impl.CoinsRead(joined(other))
				if want := changedCoins(list, i, func(c *impl.Coin) { c.Reward = b == 1 }); b <= 1 && (!ok || !slices.Equal(got, want)) || b > 1 && (ok || len(got) != 0) {
					t.Errorf("with the byte %d behind the coin %d, %s are read as %s, %t", b, i, toldCoins(list), toldCoins(got), ok)
				}
			}
			for _, s := range []string{"", "\x00\x00", "\x01\x01", "\xfd\x01\x00", "\xfe\x01\x00\x00\x00", "\xfd\x00\x00", "1", "\x01\x00\x00\x00"} {
				other := slices.Clone(parts)
				other[7*i+7].s = s
				coinsReadRight(t, joined(other))
			}
		}
	}
}

func TestCoinsReadRefusesCoinsThatAreNotValid(t *testing.T) {
	refused := 0
	for _, list := range noCoins() {
		if areWritableCoins(list) {
			refusesToReadCoins(t, coinsBytesOf(list))
			refused++
		}
	}
	if refused < 100 {
		t.Errorf("%d lists of coins that are not valid can be written", refused)
	}
	for _, list := range [][]impl.Coin{rowOfCoins(80), closeCoins(80), fixedCoins[5].list} {
		for i := range len(list) - 1 {
			turned := slices.Clone(list)
			turned[i], turned[i+1] = turned[i+1], turned[i]
			refusesToReadCoins(t, coinsBytesOf(turned))
			refusesToReadCoins(t, coinsBytesOf(changedCoins(list, i, func(c *impl.Coin) { *c = list[i+1] })))
		}
	}
}

func TestCoinsReadOfOtherStrings(t *testing.T) {
	refusesToReadCoins(t, "")
	for _, s := range []string{"coins", fmt.Sprintf("%x", coinsBytesOf(rowOfCoins(3))), textBytes(coinsBytesOf(rowOfCoins(3))), txBytesOf(ordinaryTx()), txCoreOf(ordinaryTx()), coinSig, timedLock, manyBytes()} {
		coinsReadRight(t, s)
		refusesToReadCoins(t, s)
	}
	for b := range 256 {
		for _, n := range []int{1, 2, 3, 9, 10, 11, 12, 19, 100, 3000, 100000} {
			coinsReadRight(t, strings.Repeat(string([]byte{byte(b)}), n))
		}
	}
	r := rand.New(rand.NewSource(92))
	for range 20000 {
		s := make([]byte, r.Intn(40))
		for i := range s {
			s[i] = byte(r.Intn([]int{2, 8, 256}[r.Intn(3)]))
		}
		coinsReadRight(t, string(s))
	}
}

func TestP94CoinsDigestIsDigestOfCoinsBytes(t *testing.T) {
	seen := map[int]string{}
	for _, list := range someCoins() {
		s, ok := impl.CoinsBytes(list)
		if !ok {
			t.Fatalf("CoinsBytes(%s) is false", toldCoins(list))
		}
		d := impl.CoinsDigest(list)
		if d != impl.Digest(s) || d != digestOf(coinsBytesOf(list)) {
			t.Errorf("CoinsDigest(%s) is %d, and the digest of the bytes %d", toldCoins(list), d, digestOf(coinsBytesOf(list)))
		}
		if other, there := seen[d]; there && other != s {
			t.Errorf("%.200x and %.200x have the digest %d", other, s, d)
		}
		seen[d] = s
	}
	for _, list := range noCoins() {
		if d := impl.CoinsDigest(list); d != -1 {
			t.Errorf("CoinsDigest(%s) is %d", toldCoins(list), d)
		}
	}
}

func TestOtherFieldsChangeTheBytesOfCoins(t *testing.T) {
	ofBytes := map[string]string{}
	for _, base := range append(fewCoins()[1:], closeCoins(5), rowOfCoins(5)) {
		lists := [][]impl.Coin{base}
		for i := range base {
			for _, c := range coinChanges() {
				lists = append(lists, changedCoins(base, i, c.change))
			}
			for _, more := range []int{1, 256, 65536, 1 << 31} {
				lists = append(lists, changedCoins(base, i, func(c *impl.Coin) { c.Tx += more }), changedCoins(base, i, func(c *impl.Coin) { c.Out += more }))
			}
			lists = append(lists, withoutCoin(base, i))
		}
		for _, list := range lists {
			if !coinsAreOk(list) {
				continue
			}
			s, ok := impl.CoinsBytes(list)
			name := fmt.Sprint(append([]impl.Coin{}, list...))
			if other, there := ofBytes[s]; !ok || there && other != name {
				t.Errorf("CoinsBytes(%s) is %.200x, %t, as that of %.300s", toldCoins(list), s, ok, other)
			}
			ofBytes[s] = name
		}
	}
	if len(ofBytes) < 500 {
		t.Errorf("%d strings are bytes of coins", len(ofBytes))
	}
}

// spoilCoins changes all that a list of coins holds, up to its capacity.
func spoilCoins(list []impl.Coin) {
	whole := list[:cap(list)]
	for i := range whole {
		whole[i] = impl.Coin{Tx: 99, Out: 9, Amount: -9, Lock: "changed", Height: -9, Reward: true}
	}
}

func TestCoinsLeaveArgumentsAsTheyAre(t *testing.T) {
	behind := plainCoins(impl.NumTop, 5, 0, 0, 3, 3)
	for _, list := range append(someCoins(), noCoins()...) {
		if len(list) > 1000 {
			continue
		}
		given := behindIt(list, behind...)
		places := coinPlaces(list[:min(len(list), 4)])
		if len(list) > 0 {
			last := list[len(list)-1]
			places = append(places, [2]int{last.Tx, last.Out})
		}
		impl.CoinsOk(given)
		impl.CoinsSum(given)
		impl.CoinsBytes(given)
		impl.CoinsDigest(given)
		for _, p := range places {
			impl.CoinsFind(given, p[0], p[1])
			if rest, _, ok := impl.CoinsSpend(given, p[0], p[1]); ok {
				_ = append(rest, plainCoin(99, 0))
				spoilCoins(rest)
			}
			if more, ok := impl.CoinsAdd(given, plainCoin(p[0], p[1])); ok {
				_ = append(more, plainCoin(99, 0))
				spoilCoins(more)
			}
		}
		if whole := given[:len(list)+len(behind)]; !slices.Equal(whole[:len(list)], list) || !slices.Equal(whole[len(list):], behind) {
			t.Errorf("%s became %s", toldCoins(list), toldCoins(whole))
		}
	}
}

// sharesNoMemory tells where a change of what a call hands out, or of what it was given, changes what another call hands out.
func sharesNoMemory(t *testing.T, name string, list []impl.Coin, call func(list []impl.Coin) []impl.Coin) {
	t.Helper()
	given := behindIt(list, plainCoins(impl.NumTop, 5, 0, 0)...)
	first := call(given)
	want := slices.Clone(first)
	second := call(given)
	spoilCoins(first)
	third := call(given)
	if !slices.Equal(given, list) || !slices.Equal(second, want) || !slices.Equal(third, want) {
		t.Errorf("a change of what %s of %s is changes the argument, %s, or what it is again: %s, %s", name, toldCoins(list), toldCoins(given), toldCoins(second), toldCoins(third))
	}
	spoilCoins(given)
	if !slices.Equal(second, want) {
		t.Errorf("a change of the argument changes what %s of %s was: %s", name, toldCoins(list), toldCoins(second))
	}
	_ = append(second, plainCoin(98, 0), plainCoin(98, 1))
	if fourth := append(third, plainCoin(99, 0)); !slices.Equal(fourth[:len(want)], want) || fourth[len(want)] != plainCoin(99, 0) {
		t.Errorf("what %s of %s is grows into %s", name, toldCoins(list), toldCoins(fourth))
	}
}

func TestCoinsThatWereHandedOutAreOnesOwn(t *testing.T) {
	for _, list := range someCoins() {
		s := coinsBytesOf(list)
		sharesNoMemory(t, "CoinsRead", list, func([]impl.Coin) []impl.Coin {
			read, _ := impl.CoinsRead(s)
			return read
		})
		for _, p := range coinPlaces(list) {
			sharesNoMemory(t, "CoinsAdd", list, func(list []impl.Coin) []impl.Coin {
				more, _ := impl.CoinsAdd(list, plainCoin(p[0], p[1]))
				return more
			})
			sharesNoMemory(t, "CoinsSpend", list, func(list []impl.Coin) []impl.Coin {
				rest, _, _ := impl.CoinsSpend(list, p[0], p[1])
				return rest
			})
		}
	}
}

func TestCoinsAreTheSameAtEachCall(t *testing.T) {
	list := closeCoins(79)
	want := append(plainCoins(7, 0), list...)
	for range 300 {
		if got, ok := impl.CoinsAdd(list, plainCoin(7, 0)); !ok || !slices.Equal(got, want) {
			t.Fatalf("CoinsAdd is %s, %t", toldCoins(got), ok)
		}
		if got, c, ok := impl.CoinsSpend(want, 7, 0); !ok || c != plainCoin(7, 0) || !slices.Equal(got, list) {
			t.Fatalf("CoinsSpend is %s, %v, %t", toldCoins(got), c, ok)
		}
	}
}
