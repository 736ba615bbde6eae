package tests

import (
	"encoding/binary"
	"fmt"
	"math"
	"math/big"
	"math/rand"
	"slices"
	"strings"
	"testing"

	"loop.example/workchain/impl"
)

// noOutIndexes are numbers that are no index of an output.
var noOutIndexes = []int{-1, -2, -6, math.MinInt, 6, 7, 11, 12, 252, 253, 255, 256, 257, 65536, 1 << 32, 1<<32 + 1, math.MaxInt}

// someAmounts are amounts at their limits and where their encoding changes.
var someAmounts = []int{1, 2, 252, 253, 254, 255, 256, 257, 300, 65535, 65536, 65537, 70000, 999999, 1000000}

// noAmounts are numbers below and above the amounts.
var noAmounts = []int{0, -1, -2, -1000000, math.MinInt, math.MinInt + 1, 1000001, 1000002, 1 << 20, 2000000, 1 << 32, 1<<32 + 1, 1<<32 + 1000000, 1 << 62, math.MaxInt}

// lockLengths are lengths of locks at their limits and where their encoding changes.
var lockLengths = []int{0, 1, 2, 100, 251, 252, 253, 254, 255, 256, 257, 299, 300}

// noLockLengths are lengths above those of locks.
var noLockLengths = []int{301, 302, 303, 556, 600, 4000, 4001, 65536 + 300}

// fewWitnesses are stacks that scripts can be run on.
var fewWitnesses = [][]string{
	nil, {""}, {"", ""}, {"w"}, {"w", ""}, {"", "w"}, {"w", "w"}, {"ww"}, {"v"}, {"\x00"}, {"\x01"}, {"\x01w"}, {"\x01", "w"}, {"\xff\xfd\xfe"}, {"ä"}, {coinSig}, {coinSig, "abc", "\x01"}, {coinSig, ""},
	{strings.Repeat("w", 79)}, {strings.Repeat("w", 80)}, {strings.Repeat("\xfd", 80), "", strings.Repeat("ä", 40)}, slices.Repeat([]string{""}, 24), slices.Repeat([]string{"w"}, 23), slices.Repeat([]string{"\xff"}, 24),
}

// noWitnesses are lists of strings that are no stacks: too many, or one that is too long.
var noWitnesses = [][]string{
	slices.Repeat([]string{""}, 25), slices.Repeat([]string{""}, 26), slices.Repeat([]string{"w"}, 25), slices.Repeat([]string{""}, 40), slices.Repeat([]string{""}, 41), slices.Repeat([]string{""}, 256), slices.Repeat([]string{""}, 256+24), slices.Repeat([]string{"w"}, 100000),
	{strings.Repeat("w", 81)}, {strings.Repeat("w", 82)}, {strings.Repeat("ä", 41)}, {"", strings.Repeat("\x00", 81)}, {strings.Repeat("\x00", 81), ""}, {"a", strings.Repeat("w", 81), "b"}, {strings.Repeat("w", 256)}, {strings.Repeat("w", 256+80)}, {strings.Repeat("w", 4000)}, {strings.Repeat("w", 4001)},
	append(slices.Repeat([]string{"w"}, 23), strings.Repeat("w", 81)), append([]string{strings.Repeat("w", 81)}, slices.Repeat([]string{"w"}, 23)...),
}

// txPart is a part of the bytes of a transaction: an encoded number, or bytes that stand as they are.
type txPart struct {
	s         string
	n         int
	isNumber  bool
	inWitness bool
}

// txParts are the parts of the bytes of a transaction, be it valid or not, as the document puts them one behind the other.
func txParts(x impl.Tx) []txPart {
	var parts []txPart
	inWitness := false
	plain := func(s string) { parts = append(parts, txPart{s: s, inWitness: inWitness}) }
	number := func(n int) { parts = append(parts, txPart{numBytes(n), n, true, inWitness}) }
	text := func(s string) {
		number(len(s))
		plain(s)
	}
	number(len(x.Ins))
	for _, in := range x.Ins {
		plain(fourBytes(in.Tx))
		number(in.Out)
		inWitness = true
		number(len(in.Witness))
		for _, item := range in.Witness {
			text(item)
		}
		inWitness = false
	}
	number(len(x.Outs))
	for _, out := range x.Outs {
		number(out.Amount)
		text(out.Lock)
	}
	number(x.After)
	text(x.Note)
	return parts
}

// joined are parts one behind the other.
func joined(parts []txPart) string {
	var s strings.Builder
	for _, p := range parts {
		s.WriteString(p.s)
	}
	return s.String()
}

// txBytesOf are the bytes of a transaction, be it valid or not.
func txBytesOf(x impl.Tx) string {
	return joined(txParts(x))
}

// txCoreOf is the core of a transaction, be it valid or not.
func txCoreOf(x impl.Tx) string {
	return joined(slices.DeleteFunc(txParts(x), func(p txPart) bool { return p.inWitness }))
}

// txIsOk tells whether a transaction is valid by itself: the rules of the document, written down a second time.
func txIsOk(x impl.Tx) bool {
	type place struct{ tx, out int }
	places := map[place]bool{}
	for _, in := range x.Ins {
		places[place{in.Tx, in.Out}] = true
		for _, item := range in.Witness {
			if len(item) > 80 {
				return false
			}
		}
		if in.Tx < 0 || in.Tx > 4294967295 || in.Out < 0 || in.Out > 5 || len(in.Witness) > 24 {
			return false
		}
	}
	sum := new(big.Int)
	for _, out := range x.Outs {
		sum.Add(sum, big.NewInt(int64(out.Amount)))
		if out.Amount <= 0 || len(out.Lock) > 300 {
			return false
		}
	}
	return len(x.Ins) <= 6 && len(places) == len(x.Ins) && len(x.Outs) >= 1 && len(x.Outs) <= 6 && sum.Cmp(big.NewInt(1000000)) <= 0 &&
		x.After >= 0 && x.After < 10000 && len(x.Note) <= 20 && len(txBytesOf(x)) <= 3000
}

// areWritable tells whether the numbers of a transaction can be written, be it valid or not.
func areWritable(x impl.Tx) bool {
	canBe := func(n int) bool { return n >= 0 && n <= impl.NumTop }
	for _, in := range x.Ins {
		if !canBe(in.Tx) || !canBe(in.Out) {
			return false
		}
	}
	for _, out := range x.Outs {
		if !canBe(out.Amount) {
			return false
		}
	}
	return canBe(x.After)
}

// sloppyReader reads zeros where a string has ended, and numbers however they are written.
type sloppyReader struct{ s string }

func (r *sloppyReader) take(n int) string {
	n = min(n, 5000)
	if len(r.s) < n {
		r.s += strings.Repeat("\x00", n-len(r.s))
	}
	taken := r.s[:n]
	r.s = r.s[n:]
	return taken
}

func (r *sloppyReader) number() int {
	switch first := r.take(1)[0]; first {
	case 253:
		return int(binary.LittleEndian.Uint16([]byte(r.take(2))))
	case 254:
		return int(binary.LittleEndian.Uint32([]byte(r.take(4))))
	default:
		return int(first)
	}
}

// txFrom is the transaction of which a string is the bytes, if there is one that is valid by itself: the string is read
// in a sloppy way, and what was read is held against the rules and the string.
func txFrom(s string) (impl.Tx, bool) {
	r := &sloppyReader{s}
	var x impl.Tx
	for range min(r.number(), 7) {
		in := impl.In{Tx: int(binary.BigEndian.Uint32([]byte(r.take(4)))), Out: r.number()}
		for range min(r.number(), 25) {
			in.Witness = append(in.Witness, r.take(r.number()))
		}
		x.Ins = append(x.Ins, in)
	}
	for range min(r.number(), 7) {
		amount := r.number()
		x.Outs = append(x.Outs, impl.Out{Amount: amount, Lock: r.take(r.number())})
	}
	x.After = r.number()
	x.Note = r.take(r.number())
	return x, txIsOk(x) && txBytesOf(x) == s
}

// sameTx tells whether two transactions are the same, an empty list being as good as none.
func sameTx(a impl.Tx, b impl.Tx) bool {
	sameIn := func(a impl.In, b impl.In) bool {
		return a.Tx == b.Tx && a.Out == b.Out && slices.Equal(a.Witness, b.Witness)
	}
	return slices.EqualFunc(a.Ins, b.Ins, sameIn) && slices.Equal(a.Outs, b.Outs) && a.After == b.After && a.Note == b.Note
}

// told is the beginning of what is told of a transaction that is not as it must be.
func told(x impl.Tx) string {
	s := fmt.Sprintf("%#v", x)
	return s[:min(len(s), 300)]
}

// ownTx is the same transaction in new memory.
func ownTx(x impl.Tx) impl.Tx {
	own := impl.Tx{After: x.After, Note: x.Note, Outs: append([]impl.Out{}, x.Outs...)}
	for _, in := range x.Ins {
		own.Ins = append(own.Ins, impl.In{Tx: in.Tx, Out: in.Out, Witness: append([]string{}, in.Witness...)})
	}
	return own
}

// changedTx is a transaction after a change, in new memory.
func changedTx(x impl.Tx, change func(x *impl.Tx)) impl.Tx {
	own := ownTx(x)
	change(&own)
	return own
}

// withWitness is a transaction with another witness at an input, in new memory.
func withWitness(x impl.Tx, i int, witness []string) impl.Tx {
	return changedTx(x, func(x *impl.Tx) { x.Ins[i].Witness = witness })
}

// withoutWitnesses is a transaction with empty witnesses, in new memory.
func withoutWitnesses(x impl.Tx) impl.Tx {
	for i := range x.Ins {
		x = withWitness(x, i, nil)
	}
	return x
}

// ordinaryTx is a transaction of two inputs and two outputs.
func ordinaryTx() impl.Tx {
	return impl.Tx{
		Ins:   []impl.In{{Tx: 980112286, Out: 2, Witness: []string{"sig", ""}}, {Tx: 5}},
		Outs:  []impl.Out{{Amount: 300, Lock: "lock"}, {Amount: 70000}},
		After: 300, Note: "note",
	}
}

// rewardTx is a transaction of no inputs and one output.
func rewardTx() impl.Tx {
	return impl.Tx{Outs: []impl.Out{{Amount: 4096, Lock: "k"}}, After: 1, Note: "r1"}
}

// wideTx is a transaction of n inputs and m outputs, all of them different, without witnesses.
func wideTx(n int, m int) impl.Tx {
	x := impl.Tx{After: 7, Note: "wide"}
	for i := range n {
		x.Ins = append(x.Ins, impl.In{Tx: 1000 + i, Out: i % 6})
	}
	for i := range m {
		x.Outs = append(x.Outs, impl.Out{Amount: 100 + i, Lock: fmt.Sprint("lock ", i)})
	}
	return x
}

// longTx is a transaction of n bytes, at least 200 of them, whose witnesses are long.
func longTx(n int, ins int) impl.Tx {
	x := wideTx(ins, 2)
	for i := 0; len(txBytesOf(x))+81 <= n; i = (i + 1) % ins {
		x.Ins[i].Witness = append(x.Ins[i].Witness, strings.Repeat("w", 80))
	}
	if left := n - len(txBytesOf(x)); left > 0 {
		x.Ins[0].Witness = append(x.Ins[0].Witness, strings.Repeat("v", left-1))
	}
	return x
}

// heavyTx is a transaction of n bytes, at least 2000 of them, which has all inputs, outputs and bytes of locks that it can have.
func heavyTx(n int) impl.Tx {
	x := wideTx(6, 6)
	for i := range x.Outs {
		x.Outs[i] = impl.Out{Amount: 100000 + i, Lock: strings.Repeat("L", 300)}
	}
	x.After, x.Note = 9999, strings.Repeat("n", 20)
	for i := 0; len(txBytesOf(x)) < n; i = (i + 1) % 6 {
		left := n - len(txBytesOf(x))
		x.Ins[i].Witness = append(x.Ins[i].Witness, strings.Repeat("w", min(left-1, 80)))
	}
	return x
}

// randomTx is any transaction, valid by itself in most cases.
func randomTx(r *rand.Rand) impl.Tx {
	text := func(most int) string {
		s := make([]byte, r.Intn(most+1))
		r.Read(s)
		return string(s)
	}
	x := impl.Tx{After: []int{0, 1, r.Intn(253), r.Intn(10000)}[r.Intn(4)], Note: text(20)}
	for range r.Intn(7) {
		in := impl.In{Tx: []int{r.Intn(3), r.Intn(1 << 16), r.Intn(1 << 32)}[r.Intn(3)], Out: r.Intn(6)}
		for range r.Intn(4) {
			in.Witness = append(in.Witness, text([]int{0, 2, 80}[r.Intn(3)]))
		}
		x.Ins = append(x.Ins, in)
	}
	for range 1 + r.Intn(6) {
		x.Outs = append(x.Outs, impl.Out{Amount: 1 + r.Intn([]int{1, 252, 1 << 10, 160000}[r.Intn(4)]), Lock: text([]int{0, 3, 40, 300}[r.Intn(4)])})
	}
	return x
}

// fewTxs are transactions whose bytes are few.
func fewTxs() []impl.Tx {
	list := []impl.Tx{
		{Outs: []impl.Out{{Amount: 1}}}, rewardTx(), ordinaryTx(),
		{Ins: []impl.In{{Tx: 5}}, Outs: []impl.Out{{Amount: 7, Lock: "a"}}},
		{Ins: []impl.In{{Tx: 5, Witness: []string{"w"}}}, Outs: []impl.Out{{Amount: 7, Lock: "a"}}},
		{Ins: []impl.In{{Tx: 5, Witness: []string{""}}}, Outs: []impl.Out{{Amount: 7, Lock: "a"}}},
		{Ins: []impl.In{{Tx: 0}, {Tx: 0, Out: 1}}, Outs: []impl.Out{{Amount: 1}}},
		{Ins: []impl.In{{Tx: impl.NumTop, Out: 5, Witness: []string{"", "ab", "\x01"}}}, Outs: []impl.Out{{Amount: 253, Lock: "\x00"}, {Amount: 65536, Lock: "\xff"}}, After: 9999, Note: "\x00"},
		{Outs: []impl.Out{{Amount: 166666}, {Amount: 166666}, {Amount: 166667}, {Amount: 166667}, {Amount: 166667}, {Amount: 166667}}, After: 253},
		wideTx(1, 2), wideTx(2, 1), wideTx(3, 3), wideTx(6, 1),
	}
	key, _ := impl.LockKey(4194304)
	timed, _ := impl.LockTimed(980112286, 4194304, 300, 565248)
	return append(list, impl.Tx{Ins: []impl.In{{Tx: 1 << 31, Out: 3, Witness: []string{coinSig, "abc", "\x01"}}}, Outs: []impl.Out{{Amount: 4095, Lock: key}, {Amount: 5, Lock: timed}}})
}

// someTxs are transactions that are valid by themselves.
func someTxs() []impl.Tx {
	list := fewTxs()
	for n := range 7 {
		for m := 1; m <= 6; m++ {
			list = append(list, wideTx(n, m))
		}
	}
	for _, witness := range fewWitnesses {
		list = append(list, withWitness(ordinaryTx(), 0, witness), withWitness(ordinaryTx(), 1, witness))
	}
	for _, amount := range someAmounts {
		list = append(list, changedTx(ordinaryTx(), func(x *impl.Tx) { x.Outs = []impl.Out{{Amount: amount, Lock: "a"}} }))
	}
	for _, n := range lockLengths {
		list = append(list, changedTx(ordinaryTx(), func(x *impl.Tx) { x.Outs[1].Lock = strings.Repeat("\xfd", n) }), changedTx(rewardTx(), func(x *impl.Tx) { x.Outs[0].Lock = manyBytes()[:n] }))
	}
	for _, height := range lockHeights {
		list = append(list, changedTx(ordinaryTx(), func(x *impl.Tx) { x.After = height }))
	}
	for n := range 21 {
		list = append(list, changedTx(ordinaryTx(), func(x *impl.Tx) { x.Note = strings.Repeat("\xfe", n) }))
	}
	list = append(list, longTx(2999, 2), longTx(3000, 2), longTx(3000, 6), longTx(1000, 1), heavyTx(2999), heavyTx(3000), heavyTx(2000))
	r := rand.New(rand.NewSource(13))
	for range 300 {
		if x := randomTx(r); txIsOk(x) {
			list = append(list, x)
		}
	}
	return list
}

// bases are transactions into which something is put that is or is not valid.
func bases() []impl.Tx {
	return []impl.Tx{ordinaryTx(), rewardTx(), wideTx(1, 1), wideTx(3, 2), wideTx(6, 6)}
}

// refusesToReadTx tells where TxRead is not false and the zero value.
func refusesToReadTx(t *testing.T, s string) {
	t.Helper()
	if x, ok := impl.TxRead(s); ok || !sameTx(x, impl.Tx{}) {
		t.Errorf("TxRead(%.200x) is %s, %t", s, told(x), ok)
	}
}

// refusesToSign tells where SignText is not false and the empty string.
func refusesToSign(t *testing.T, x impl.Tx, i int, amount int, lock string) {
	t.Helper()
	if s, ok := impl.SignText(x, i, amount, lock); ok || s != "" {
		t.Errorf("SignText(%s, %d, %d, %d bytes) is %.100x, %t", told(x), i, amount, len(lock), s, ok)
	}
}

// refusesWitness tells where WithWitness is not false and the zero value.
func refusesWitness(t *testing.T, x impl.Tx, i int, witness []string) {
	t.Helper()
	if y, ok := impl.WithWitness(x, i, witness); ok || !sameTx(y, impl.Tx{}) {
		t.Errorf("WithWitness(%s, %d, %.200q) is %s, %t", told(x), i, witness, told(y), ok)
	}
}

// refusesTx tells where a transaction that is not valid by itself is taken.
func refusesTx(t *testing.T, x impl.Tx) {
	t.Helper()
	if impl.TxOk(x) {
		t.Errorf("TxOk(%s) is true", told(x))
	}
	if s, ok := impl.TxBytes(x); ok || s != "" {
		t.Errorf("TxBytes(%s) is %.100x, %t", told(x), s, ok)
	}
	if s, ok := impl.TxCore(x); ok || s != "" {
		t.Errorf("TxCore(%s) is %.100x, %t", told(x), s, ok)
	}
	if id := impl.TxId(x); id != -1 {
		t.Errorf("TxId(%s) is %d", told(x), id)
	}
	for i := -1; i <= min(len(x.Ins), 8); i++ {
		refusesToSign(t, x, i, 1, "")
		refusesWitness(t, x, i, nil)
		refusesWitness(t, x, i, []string{"w"})
	}
	if areWritable(x) {
		refusesToReadTx(t, txBytesOf(x))
	}
}

// txIsRight tells where the functions do not tell of a transaction what the document does, and whether it is valid by itself.
func txIsRight(t *testing.T, x impl.Tx) bool {
	t.Helper()
	if !txIsOk(x) {
		refusesTx(t, x)
		return false
	}
	s, core := txBytesOf(x), txCoreOf(x)
	if !impl.TxOk(x) {
		t.Errorf("TxOk(%s) is false", told(x))
	}
	if got, ok := impl.TxBytes(x); !ok || got != s {
		t.Errorf("TxBytes(%s) is %.200x, %t, want %.200x", told(x), got, ok, s)
	}
	if got, ok := impl.TxCore(x); !ok || got != core {
		t.Errorf("TxCore(%s) is %.200x, %t, want %.200x", told(x), got, ok, core)
	}
	if got, want := impl.TxId(x), impl.Digest(core); got != want {
		t.Errorf("TxId(%s) is %d, want %d", told(x), got, want)
	}
	if got, ok := impl.TxRead(s); !ok || !sameTx(got, x) {
		t.Errorf("TxRead of TxBytes(%s) is %s, %t", told(x), told(got), ok)
	}
	return true
}

// isTaken tells where a transaction is not taken as valid by itself, or taken as valid, against what is wanted.
func isTaken(t *testing.T, x impl.Tx, want bool) {
	t.Helper()
	if txIsRight(t, x) != want {
		t.Errorf("%s is valid by itself: %t", told(x), !want)
	}
}

// readsRight tells where a string is not read as the document tells, and whether it is the bytes of a transaction.
func readsRight(t *testing.T, s string) bool {
	t.Helper()
	want, ok := txFrom(s)
	if !ok {
		refusesToReadTx(t, s)
		return false
	}
	if got, ok := impl.TxRead(s); !ok || !sameTx(got, want) {
		t.Errorf("TxRead(%.200x) is %s, %t, want %s", s, told(got), ok, told(want))
	}
	if again, ok := impl.TxBytes(want); !ok || again != s {
		t.Errorf("TxBytes of TxRead(%.200x) is %.200x, %t", s, again, ok)
	}
	return true
}

// fixedTxs were written by hand; their ids were reckoned by a separate script.
var fixedTxs = []struct {
	x     impl.Tx
	bytes string
	core  string
	id    int
}{
	{impl.Tx{Outs: []impl.Out{{Amount: 1}}}, "\x00\x01\x01\x00\x00\x00", "\x00\x01\x01\x00\x00\x00", 1389593852},
	{impl.Tx{Outs: []impl.Out{{Amount: 4096, Lock: "k"}}, After: 1, Note: "r1"}, "\x00\x01\xfd\x00\x10\x01k\x01\x02r1", "\x00\x01\xfd\x00\x10\x01k\x01\x02r1", 4217905509},
	{impl.Tx{Ins: []impl.In{{Tx: 5}}, Outs: []impl.Out{{Amount: 7, Lock: "a"}}}, "\x01\x00\x00\x00\x05\x00\x00\x01\x07\x01a\x00\x00", "\x01\x00\x00\x00\x05\x00\x01\x07\x01a\x00\x00", 1589716255},
	{impl.Tx{Ins: []impl.In{{Tx: 5, Witness: []string{""}}}, Outs: []impl.Out{{Amount: 7, Lock: "a"}}}, "\x01\x00\x00\x00\x05\x00\x01\x00\x01\x07\x01a\x00\x00", "\x01\x00\x00\x00\x05\x00\x01\x07\x01a\x00\x00", 1589716255},
	{impl.Tx{Ins: []impl.In{{Tx: 5, Witness: []string{"w"}}}, Outs: []impl.Out{{Amount: 7, Lock: "a"}}}, "\x01\x00\x00\x00\x05\x00\x01\x01w\x01\x07\x01a\x00\x00", "\x01\x00\x00\x00\x05\x00\x01\x07\x01a\x00\x00", 1589716255},
	{impl.Tx{Ins: []impl.In{{Tx: 5, Witness: []string{"", "ab", "\x01"}}}, Outs: []impl.Out{{Amount: 7, Lock: "a"}}}, "\x01\x00\x00\x00\x05\x00\x03\x00\x02ab\x01\x01\x01\x07\x01a\x00\x00", "\x01\x00\x00\x00\x05\x00\x01\x07\x01a\x00\x00", 1589716255},
	{
		ordinaryTx(),
		"\x02\x3a\x6b\x53\x9e\x02\x02\x03sig\x00\x00\x00\x00\x05\x00\x00\x02\xfd\x2c\x01\x04lock\xfe\x70\x11\x01\x00\x00\xfd\x2c\x01\x04note",
		"\x02\x3a\x6b\x53\x9e\x02\x00\x00\x00\x05\x00\x02\xfd\x2c\x01\x04lock\xfe\x70\x11\x01\x00\x00\xfd\x2c\x01\x04note", 2769905464,
	},
	{
		impl.Tx{Ins: []impl.In{{Tx: impl.NumTop, Out: 5, Witness: []string{strings.Repeat("i", 80)}}}, Outs: []impl.Out{{Amount: 1000000, Lock: strings.Repeat("L", 300)}}, After: 9999, Note: strings.Repeat("n", 20)},
		"\x01\xff\xff\xff\xff\x05\x01\x50" + strings.Repeat("i", 80) + "\x01\xfe\x40\x42\x0f\x00\xfd\x2c\x01" + strings.Repeat("L", 300) + "\xfd\x0f\x27\x14" + strings.Repeat("n", 20),
		"\x01\xff\xff\xff\xff\x05\x01\xfe\x40\x42\x0f\x00\xfd\x2c\x01" + strings.Repeat("L", 300) + "\xfd\x0f\x27\x14" + strings.Repeat("n", 20), 27024307,
	},
	{
		impl.Tx{Outs: []impl.Out{{Amount: 252}, {Amount: 253}, {Amount: 255}, {Amount: 256}, {Amount: 65535}, {Amount: 65536}}, After: 252},
		"\x00\x06\xfc\x00\xfd\xfd\x00\x00\xfd\xff\x00\x00\xfd\x00\x01\x00\xfd\xff\xff\x00\xfe\x00\x00\x01\x00\x00\xfc\x00",
		"\x00\x06\xfc\x00\xfd\xfd\x00\x00\xfd\xff\x00\x00\xfd\x00\x01\x00\xfd\xff\xff\x00\xfe\x00\x00\x01\x00\x00\xfc\x00", 1544817648,
	},
	{
		impl.Tx{Ins: []impl.In{{Tx: 0x01020304, Out: 1, Witness: slices.Repeat([]string{""}, 24)}}, Outs: []impl.Out{{Amount: 1, Lock: strings.Repeat("\x00", 252)}}, After: 253},
		"\x01\x01\x02\x03\x04\x01\x18" + strings.Repeat("\x00", 24) + "\x01\x01\xfc" + strings.Repeat("\x00", 252) + "\xfd\xfd\x00\x00",
		"\x01\x01\x02\x03\x04\x01\x01\x01\xfc" + strings.Repeat("\x00", 252) + "\xfd\xfd\x00\x00", 3863782388,
	},
	{
		impl.Tx{Ins: []impl.In{{}}, Outs: []impl.Out{{Amount: 1, Lock: strings.Repeat("\xfd", 253)}}},
		"\x01\x00\x00\x00\x00\x00\x00\x01\x01\xfd\xfd\x00" + strings.Repeat("\xfd", 253) + "\x00\x00",
		"\x01\x00\x00\x00\x00\x00\x01\x01\xfd\xfd\x00" + strings.Repeat("\xfd", 253) + "\x00\x00", 244735302,
	},
	{
		impl.Tx{Ins: []impl.In{{Tx: 7, Witness: []string{"a"}}, {Tx: 7, Out: 1}, {Tx: 7, Out: 2, Witness: []string{"b", "c"}}, {Tx: 7, Out: 3}, {Tx: 7, Out: 4, Witness: []string{""}}, {Tx: 7, Out: 5}}, Outs: []impl.Out{{Amount: 2}}},
		"\x06\x00\x00\x00\x07\x00\x01\x01a\x00\x00\x00\x07\x01\x00\x00\x00\x00\x07\x02\x02\x01b\x01c\x00\x00\x00\x07\x03\x00\x00\x00\x00\x07\x04\x01\x00\x00\x00\x00\x07\x05\x00\x01\x02\x00\x00\x00",
		"\x06\x00\x00\x00\x07\x00\x00\x00\x00\x07\x01\x00\x00\x00\x07\x02\x00\x00\x00\x07\x03\x00\x00\x00\x07\x04\x00\x00\x00\x07\x05\x01\x02\x00\x00\x00", 1208692973,
	},
}

func TestTransactionsThatWereWrittenByHand(t *testing.T) {
	for _, c := range fixedTxs {
		if got, ok := impl.TxBytes(c.x); !ok || got != c.bytes {
			t.Errorf("TxBytes(%v) is %x, %t, want %x", c.x, got, ok, c.bytes)
		}
		if got, ok := impl.TxCore(c.x); !ok || got != c.core {
			t.Errorf("TxCore(%v) is %x, %t, want %x", c.x, got, ok, c.core)
		}
		if got := impl.TxId(c.x); got != c.id {
			t.Errorf("TxId(%v) is %d, want %d", c.x, got, c.id)
		}
		if got, ok := impl.TxRead(c.bytes); !ok || !sameTx(got, c.x) {
			t.Errorf("TxRead(%x) is %v, %t, want %v", c.bytes, got, ok, c.x)
		}
		isTaken(t, c.x, true)
	}
}

func TestP79TransactionsThatAreValid(t *testing.T) {
	for _, x := range someTxs() {
		isTaken(t, x, true)
	}
}

func TestP79NumbersOfInputsAndOutputs(t *testing.T) {
	for n := range 20 {
		for m := range 20 {
			isTaken(t, wideTx(n, m), n <= 6 && m >= 1 && m <= 6)
		}
	}
	for _, n := range []int{40, 41, 252, 253, 255, 256, 257, 262, 65536, 65537, 100000} {
		isTaken(t, wideTx(n, 1), false)
		isTaken(t, wideTx(1, n), false)
	}
	isTaken(t, impl.Tx{}, false)
	isTaken(t, impl.Tx{Ins: []impl.In{}, Outs: []impl.Out{}}, false)
	isTaken(t, impl.Tx{Ins: []impl.In{}, Outs: []impl.Out{{Amount: 1}}}, true)
	for _, x := range bases() {
		isTaken(t, changedTx(x, func(x *impl.Tx) { x.Outs = nil }), false)
		isTaken(t, changedTx(x, func(x *impl.Tx) { x.Ins = nil }), true)
		isTaken(t, changedTx(x, func(x *impl.Tx) { x.Ins, x.Outs = nil, nil }), false)
	}
}

func TestP79InputsAtTheirLimits(t *testing.T) {
	for _, x := range bases() {
		for i := range x.Ins {
			put := func(change func(in *impl.In), want bool) {
				t.Helper()
				isTaken(t, changedTx(x, func(x *impl.Tx) { change(&x.Ins[i]) }), want)
			}
			for _, d := range []int{0, 1, 255, 256, 65536, 1 << 31, impl.NumTop - 1, impl.NumTop} {
				put(func(in *impl.In) { in.Tx = d }, true)
			}
			for _, no := range noDigests {
				put(func(in *impl.In) { in.Tx = no }, false)
			}
			for out := range 6 {
				put(func(in *impl.In) { in.Out = out }, true)
			}
			for _, no := range noOutIndexes {
				put(func(in *impl.In) { in.Out = no }, false)
				put(func(in *impl.In) { in.Tx, in.Out = impl.NumTop, no }, false)
			}
			for _, witness := range fewWitnesses {
				put(func(in *impl.In) { in.Witness = witness }, len(txBytesOf(withWitness(x, i, witness))) <= 3000)
			}
			for _, no := range noWitnesses {
				put(func(in *impl.In) { in.Witness = no }, false)
			}
			for n := range 60 {
				put(func(in *impl.In) { in.Witness = trueItems(n) }, n <= 24)
				put(func(in *impl.In) { in.Witness = falseItems(n) }, n <= 24)
			}
			for n := range 120 {
				put(func(in *impl.In) { in.Witness = []string{"a", strings.Repeat("w", n), "b"} }, n <= 80)
				put(func(in *impl.In) { in.Witness = []string{strings.Repeat("w", n)} }, n <= 80)
			}
		}
	}
}

func TestP79EachItemOfAWitnessCounts(t *testing.T) {
	for n := 1; n <= 24; n++ {
		for at := range n {
			for _, length := range []int{80, 81} {
				witness := trueItems(n)
				witness[at] = strings.Repeat("w", length)
				isTaken(t, withWitness(ordinaryTx(), 0, witness), length == 80)
				isTaken(t, withWitness(ordinaryTx(), 1, witness), length == 80)
			}
		}
	}
}

func TestP79NoTwoInputsSpendTheSame(t *testing.T) {
	for n := 2; n <= 6; n++ {
		for i := range n {
			for k := range n {
				if i == k {
					continue
				}
				same := changedTx(wideTx(n, 1), func(x *impl.Tx) { x.Ins[i].Tx, x.Ins[i].Out = x.Ins[k].Tx, x.Ins[k].Out })
				isTaken(t, same, false)
				isTaken(t, withWitness(same, i, []string{"another witness"}), false)
				isTaken(t, withWitness(same, k, []string{"another witness"}), false)
				isTaken(t, changedTx(same, func(x *impl.Tx) { x.Ins[i].Tx += 100 }), true)
				isTaken(t, changedTx(same, func(x *impl.Tx) { x.Ins[i].Tx = impl.NumTop - x.Ins[i].Tx }), true)
				isTaken(t, changedTx(same, func(x *impl.Tx) { x.Ins[i].Out = (x.Ins[i].Out + 1) % 6 }), true)
			}
		}
	}
	for _, c := range []struct {
		ins  []impl.In
		want bool
	}{
		{[]impl.In{{}, {}}, false},
		{[]impl.In{{Tx: 5}, {Tx: 5}}, false},
		{[]impl.In{{Tx: 5, Out: 2}, {Tx: 5, Out: 2, Witness: []string{"w"}}}, false},
		{[]impl.In{{Tx: 5, Out: 2}, {Tx: 6, Out: 2}, {Tx: 5, Out: 2}}, false},
		{[]impl.In{{Tx: 5, Out: 2}, {Tx: 5, Out: 3}, {Tx: 6, Out: 2}, {Tx: 6, Out: 3}, {Tx: 7, Out: 2}, {Tx: 5, Out: 2}}, false},
		{[]impl.In{{Tx: 5, Out: 2}, {Tx: 5, Out: 3}, {Tx: 6, Out: 2}, {Tx: 6, Out: 3}, {Tx: 7, Out: 2}, {Tx: 7, Out: 3}}, true},
		{[]impl.In{{Tx: impl.NumTop, Out: 5}, {Tx: impl.NumTop, Out: 5}}, false},
		{[]impl.In{{Tx: impl.NumTop}, {Tx: 0}}, true},
		{[]impl.In{{Tx: 1, Out: 2}, {Tx: 2, Out: 1}}, true},
		{[]impl.In{{Tx: 1, Out: 2}, {Tx: 0, Out: 3}, {Tx: 3, Out: 0}, {Tx: 2, Out: 1}}, true},
		{[]impl.In{{Tx: 0, Out: 5}, {Tx: 1, Out: 0}, {Tx: 5, Out: 0}, {Tx: 6, Out: 5}, {Tx: 256}, {Tx: 65536}}, true},
		{[]impl.In{{Tx: 3}, {Tx: 3, Out: 1}, {Tx: 3, Out: 2}, {Tx: 3, Out: 3}, {Tx: 3, Out: 4}, {Tx: 3, Out: 5}}, true},
		{[]impl.In{{Tx: 5}, {Tx: 4}, {Tx: 3}, {Tx: 2}, {Tx: 1}, {Tx: 0}}, true},
	} {
		isTaken(t, impl.Tx{Ins: c.ins, Outs: []impl.Out{{Amount: 1}}}, c.want)
	}
}

func TestP79OutputsAtTheirLimits(t *testing.T) {
	for _, x := range bases() {
		for i := range x.Outs {
			put := func(change func(out *impl.Out), want bool) {
				t.Helper()
				isTaken(t, changedTx(x, func(x *impl.Tx) { change(&x.Outs[i]) }), want)
			}
			for _, amount := range []int{1, 2, 252, 253, 65535, 65536, 900000} {
				put(func(out *impl.Out) { out.Amount = amount }, true)
			}
			for _, no := range noAmounts {
				put(func(out *impl.Out) { out.Amount = no }, false)
			}
			for _, n := range lockLengths {
				put(func(out *impl.Out) { out.Lock = strings.Repeat("l", n) }, true)
				put(func(out *impl.Out) { out.Lock = strings.Repeat("ä", n/2) }, true)
			}
			for _, n := range noLockLengths {
				put(func(out *impl.Out) { out.Lock = strings.Repeat("l", n) }, false)
				put(func(out *impl.Out) { out.Lock = strings.Repeat("ä", n/2+1) }, false)
			}
		}
	}
	for amount := -10; amount < 1100; amount++ {
		isTaken(t, impl.Tx{Outs: []impl.Out{{Amount: amount, Lock: "a"}}}, amount >= 1)
	}
	for amount := 999000; amount < 1000300; amount++ {
		isTaken(t, impl.Tx{Outs: []impl.Out{{Amount: amount, Lock: "a"}}}, amount <= 1000000)
	}
}

func TestP79SumsOfOutputs(t *testing.T) {
	for _, c := range []struct {
		amounts []int
		want    bool
	}{
		{[]int{1000000}, true}, {[]int{1000001}, false},
		{[]int{999999, 1}, true}, {[]int{1, 999999}, true}, {[]int{1000000, 1}, false}, {[]int{1, 1000000}, false}, {[]int{999999, 2}, false}, {[]int{2, 999999}, false}, {[]int{500000, 500000}, true}, {[]int{500000, 500001}, false}, {[]int{1000000, 1000000}, false},
		{[]int{166666, 166666, 166667, 166667, 166667, 166667}, true}, {[]int{166667, 166666, 166667, 166667, 166667, 166667}, false}, {[]int{166666, 166666, 166667, 166667, 166667, 166668}, false}, {[]int{1, 1, 1, 1, 1, 999995}, true}, {[]int{1, 1, 1, 1, 1, 999996}, false}, {[]int{999996, 1, 1, 1, 1, 1}, false}, {[]int{1, 999996, 1, 1, 1, 1}, false},
		{[]int{1000000, 1000000, 1000000, 1000000, 1000000, 1000000}, false},
		{[]int{0, 5}, false}, {[]int{5, 0}, false}, {[]int{-1, 5}, false}, {[]int{5, -1}, false}, {[]int{1000001, -1}, false}, {[]int{-1, 1000001}, false}, {[]int{1000000, -1, 1}, false}, {[]int{2000000, -1000000}, false}, {[]int{0, 0, 1}, false},
		{[]int{math.MaxInt, math.MaxInt, 3}, false}, {[]int{math.MaxInt, math.MaxInt}, false}, {[]int{math.MaxInt, 1}, false}, {[]int{math.MaxInt, 2, math.MaxInt}, false}, {[]int{math.MaxInt, 1, math.MaxInt, 1, 5}, false}, {[]int{1 << 62, 1 << 62, 1 << 62, 1 << 62, 5}, false}, {[]int{1 << 62, 1 << 62}, false},
		{[]int{math.MinInt, math.MinInt, 5}, false}, {[]int{math.MaxInt, math.MinInt, 2}, false}, {[]int{math.MinInt}, false}, {[]int{1 << 32, 1}, false}, {[]int{1<<32 + 1, 1}, false}, {[]int{1 << 31, 1 << 31, 5}, false}, {[]int{-5, 10}, false},
	} {
		for _, lock := range []string{"", "lock"} {
			x := impl.Tx{Ins: []impl.In{{Tx: 5}}}
			for _, amount := range c.amounts {
				x.Outs = append(x.Outs, impl.Out{Amount: amount, Lock: lock})
			}
			isTaken(t, x, c.want)
			isTaken(t, changedTx(x, func(x *impl.Tx) { x.Ins = nil }), c.want)
		}
	}
}

func TestP79HeightsAndNotesAtTheirLimits(t *testing.T) {
	for after := -20; after < 10300; after++ {
		isTaken(t, changedTx(rewardTx(), func(x *impl.Tx) { x.After = after }), after >= 0 && after <= 9999)
	}
	for _, x := range bases() {
		for _, height := range lockHeights {
			isTaken(t, changedTx(x, func(x *impl.Tx) { x.After = height }), true)
		}
		for _, no := range noHeights {
			isTaken(t, changedTx(x, func(x *impl.Tx) { x.After = no }), false)
		}
		for n := range 50 {
			isTaken(t, changedTx(x, func(x *impl.Tx) { x.Note = manyBytes()[:n] }), n <= 20)
			isTaken(t, changedTx(x, func(x *impl.Tx) { x.Note = strings.Repeat("ä", n) }), n <= 10)
		}
		for _, n := range []int{252, 253, 256, 276, 4000, 4001, 65536 + 20} {
			isTaken(t, changedTx(x, func(x *impl.Tx) { x.Note = strings.Repeat("n", n) }), false)
		}
	}
}

func TestP79BytesAtTheirLimit(t *testing.T) {
	for n := 2950; n < 3090; n++ {
		for _, x := range []impl.Tx{longTx(n, 2), longTx(n, 3), longTx(n, 6), heavyTx(n)} {
			if len(txBytesOf(x)) != n {
				t.Fatalf("a transaction of %d bytes has %d", n, len(txBytesOf(x)))
			}
			isTaken(t, x, n <= 3000)
			isTaken(t, withoutWitnesses(x), true)
		}
	}
	most := wideTx(6, 6)
	for i := range most.Ins {
		most.Ins[i].Witness = slices.Repeat([]string{strings.Repeat("w", 80)}, 24)
		isTaken(t, most, i == 0)
	}
}

func TestP79RandomTransactions(t *testing.T) {
	r := rand.New(rand.NewSource(79))
	taken, not := 0, 0
	for range 4000 {
		x := randomTx(r)
		if r.Intn(2) == 0 {
			breakTx(r, &x)
		}
		if txIsRight(t, x) {
			taken++
		} else {
			not++
		}
	}
	if taken < 1000 || not < 1000 {
		t.Errorf("%d transactions of %d are valid by themselves", taken, taken+not)
	}
}

// breakTx puts something into a transaction with which it is not valid by itself in most cases.
func breakTx(r *rand.Rand, x *impl.Tx) {
	numbers := []*int{&x.After}
	texts := []*string{&x.Note}
	for i := range x.Ins {
		numbers = append(numbers, &x.Ins[i].Tx, &x.Ins[i].Out)
		for k := range x.Ins[i].Witness {
			texts = append(texts, &x.Ins[i].Witness[k])
		}
	}
	for i := range x.Outs {
		numbers = append(numbers, &x.Outs[i].Amount)
		texts = append(texts, &x.Outs[i].Lock)
	}
	switch r.Intn(4) {
	case 0:
		*texts[r.Intn(len(texts))] = strings.Repeat("b", []int{20, 21, 80, 81, 300, 301}[r.Intn(6)])
	case 1:
		x.Ins = append(x.Ins, x.Ins...)
	case 2:
		x.Outs = append(x.Outs, x.Outs...)
	default:
		*numbers[r.Intn(len(numbers))] = []int{-1, 0, 5, 6, 9999, 10000, 1000000, 1000001, impl.NumTop, impl.NumTop + 1, math.MaxInt, math.MinInt}[r.Intn(12)]
	}
}

func TestP80TxReadOfTxBytes(t *testing.T) {
	for _, x := range someTxs() {
		s, ok := impl.TxBytes(x)
		if !ok {
			t.Fatalf("TxBytes(%s) is false", told(x))
		}
		if got, ok := impl.TxRead(s); !ok || !sameTx(got, x) {
			t.Errorf("TxRead of TxBytes(%s) is %s, %t", told(x), told(got), ok)
		}
	}
}

func TestP81BytesOneByteAway(t *testing.T) {
	taken, not := 0, 0
	for _, x := range fewTxs() {
		s := txBytesOf(x)
		for i := range len(s) + 1 {
			near := []string{s[:i] + s[min(i+1, len(s)):]}
			for b := range 256 {
				near = append(near, s[:i]+string([]byte{byte(b)})+s[i:])
				if i < len(s) {
					near = append(near, changed(s, i, byte(b)))
				}
			}
			for _, other := range near {
				if readsRight(t, other) {
					taken++
				} else {
					not++
				}
			}
		}
	}
	if taken < 1000 || not < 1000 {
		t.Errorf("%d strings of %d are taken", taken, taken+not)
	}
}

func TestP81LongBytesOneByteAway(t *testing.T) {
	r := rand.New(rand.NewSource(81))
	for _, x := range someTxs() {
		s := txBytesOf(x)
		for range 20 {
			i, b := r.Intn(len(s)), []byte{0, 1, 6, 7, 24, 25, 80, 81, 252, 253, 254, 255, byte(r.Intn(256))}[r.Intn(13)]
			readsRight(t, changed(s, i, b))
			readsRight(t, s[:i]+string([]byte{b})+s[i:])
			readsRight(t, s[:i]+s[i+1:])
			readsRight(t, s[:i]+s[r.Intn(len(s)):])
		}
	}
}

func TestP81AllStringsOfTheShortestTransactions(t *testing.T) {
	taken := 0
	for amount := range 256 {
		for after := range 256 {
			if readsRight(t, "\x00\x01"+string([]byte{byte(amount), 0, byte(after), 0})) {
				taken++
			}
		}
	}
	if taken != 252*253 {
		t.Errorf("%d strings of six bytes are read", taken)
	}
	for _, s := range someBytes() {
		if len(s) < 6 {
			refusesToReadTx(t, s)
		} else {
			readsRight(t, s)
		}
	}
	for a := range 256 {
		for b := range 256 {
			readsRight(t, string([]byte{byte(a), byte(b), 7, 0, 0, 0}))
			readsRight(t, string([]byte{0, 1, 7, byte(a), 0, byte(b)}))
			readsRight(t, string([]byte{0, 1, 7, byte(a), 0, 0, byte(b)}))
			readsRight(t, string([]byte{1, 0, 0, 0, 5, byte(a), byte(b), 1, 7, 0, 0, 0}))
		}
	}
}

func TestTxReadOfBytesThatEndTooEarly(t *testing.T) {
	for _, x := range someTxs() {
		s := txBytesOf(x)
		for n := range len(s) {
			if n < 200 || n > len(s)-50 || n%17 == 0 {
				refusesToReadTx(t, s[:n])
				readsRight(t, s[len(s)-n:])
			}
		}
	}
	longest := txBytesOf(heavyTx(3000))
	for n := range longest {
		refusesToReadTx(t, longest[:n])
	}
}

func TestTxReadOfBytesWithMoreBehind(t *testing.T) {
	for _, x := range fewTxs() {
		s := txBytesOf(x)
		for b := range 256 {
			refusesToReadTx(t, s+string([]byte{byte(b)}))
		}
		for _, tail := range append(tails[1:], s, strings.Repeat("\x00", 5000)) {
			refusesToReadTx(t, s+tail)
			refusesToReadTx(t, tail+s)
		}
	}
}

func TestTxReadRefusesNumbersThatAreLongerThanTheyMustBe(t *testing.T) {
	for _, x := range someTxs() {
		parts := txParts(x)
		for i, p := range parts {
			if !p.isNumber || i > 30 {
				continue
			}
			n := uint32(p.n)
			longer := []string{string(binary.LittleEndian.AppendUint64([]byte{255}, uint64(n))), "\xff" + p.s}
			if n < 65536 {
				longer = append(longer, string(binary.LittleEndian.AppendUint32([]byte{254}, n)), "\xfe"+string([]byte{byte(n), byte(n >> 8)}))
			}
			if n < 253 {
				longer = append(longer, string([]byte{253, byte(n), 0}))
			}
			for _, s := range longer {
				other := slices.Clone(parts)
				other[i].s = s
				refusesToReadTx(t, joined(other))
			}
		}
	}
}

func TestTxReadOfOtherNumbers(t *testing.T) {
	numbers := slices.Clone(edgeNums)
	for n := range 50 {
		numbers = append(numbers, n)
	}
	numbers = append(numbers, 80, 81, 9999, 10000, 1000000, 1000001)
	for _, x := range append(fewTxs(), wideTx(6, 6), longTx(500, 2)) {
		parts := txParts(x)
		for i, p := range parts {
			if !p.isNumber {
				continue
			}
			for _, n := range numbers {
				other := slices.Clone(parts)
				other[i].s = numBytes(n)
				s := joined(other)
				readsRight(t, s)
				readsRight(t, s+strings.Repeat("\x00", 20))
			}
		}
	}
}

func TestTxReadRefusesListsThatAreLongerThanWhatFollows(t *testing.T) {
	for _, s := range []string{
		"\x01\x01\x07\x00\x00\x00", "\x02\x00\x00\x00\x05\x00\x00\x01\x07\x01a\x00\x00", "\x06\x00\x00\x00\x05\x00\x00\x01\x07\x01a\x00\x00", "\x07\x00\x00\x00\x05\x00\x00\x01\x07\x01a\x00\x00", "\xfd\xff\xff\x00\x00\x00\x05\x00\x00", "\xfe\xff\xff\xff\xff", "\xfe\xff\xff\xff\xff\x00\x00\x00\x05\x00\x00\x01\x07\x01a\x00\x00",
		"\x00\x02\x07\x00\x00\x00", "\x00\x06\x07\x00\x00\x00", "\x00\x07\x07\x00\x00\x00", "\x00\xfe\xff\xff\xff\xff\x07\x00\x00\x00", "\x00\xfd\xff\xff\x07\x00\x00\x00", "\x00\x00\x00\x00",
		"\x01\x00\x00\x00\x05\x00\x01\x01\x07\x01a\x00\x00", "\x01\x00\x00\x00\x05\x00\x18\x01\x07\x01a\x00\x00", "\x01\x00\x00\x00\x05\x00\x28\x01\x07\x01a\x00\x00", "\x01\x00\x00\x00\x05\x00\x29\x01\x07\x01a\x00\x00", "\x01\x00\x00\x00\x05\x00\xfe\xff\xff\xff\xff\x01\x07\x01a\x00\x00", "\x01\x00\x00\x00\x05\x00\xfd\xff\xff\x01\x07\x01a\x00\x00",
		"\x01\x00\x00\x00\x05\x00\x01\x02w\x01\x07\x01a\x00\x00", "\x01\x00\x00\x00\x05\x00\x01\x50w\x01\x07\x01a\x00\x00", "\x01\x00\x00\x00\x05\x00\x01\xfd\xa0\x0fw\x01\x07\x01a\x00\x00", "\x01\x00\x00\x00\x05\x00\x01\xfe\xff\xff\xff\xffw\x01\x07\x01a\x00\x00",
		"\x00\x01\x07\x01\x00\x00", "\x00\x01\x07\x04\x00\x00", "\x00\x01\x07\xfd\x2c\x01a\x00\x00", "\x00\x01\x07\xfd\xa0\x0fa\x00\x00", "\x00\x01\x07\xfe\xff\xff\xff\xffa\x00\x00", "\x00\x01\x07\x00\x00\x01", "\x00\x01\x07\x00\x00\x14a", "\x00\x01\x07\x00\x00\xfe\xff\xff\xff\xff",
	} {
		refusesToReadTx(t, s)
		refusesToReadTx(t, s+"\x00\x00")
	}
}

func TestTxReadRefusesCores(t *testing.T) {
	for _, x := range someTxs() {
		core := txCoreOf(x)
		if readsRight(t, core) && len(x.Ins) > 0 {
			t.Errorf("TxRead takes the core of %v", x)
		}
		if len(x.Ins) == 0 && core != txBytesOf(x) {
			t.Errorf("the core of the reward %v is %x", x, core)
		}
	}
	refusesToReadTx(t, "\x01\x00\x00\x00\x05\x00\x01\x07\x01a\x00\x00")
}

func TestTxReadOfOtherStrings(t *testing.T) {
	refusesToReadTx(t, "")
	for _, s := range []string{"transaction", "spend", "spend" + txCoreOf(ordinaryTx()), fmt.Sprintf("%x", txBytesOf(ordinaryTx())), textBytes(txBytesOf(ordinaryTx())), coinSig, timedLock, manyBytes()} {
		refusesToReadTx(t, s)
	}
	for b := range 256 {
		for _, n := range []int{1, 2, 3, 4, 5, 6, 7, 12, 13, 100, 2999, 3000, 3001, 1000000} {
			readsRight(t, strings.Repeat(string([]byte{byte(b)}), n))
		}
	}
	r := rand.New(rand.NewSource(80))
	for range 20000 {
		s := make([]byte, r.Intn(40))
		for i := range s {
			s[i] = byte(r.Intn([]int{2, 8, 256}[r.Intn(3)]))
		}
		readsRight(t, string(s))
	}
	for i, j := range someTxs() {
		for _, k := range fewTxs()[i%5:] {
			a, b := txBytesOf(j), txBytesOf(k)
			readsRight(t, a[:len(a)/2]+b[len(b)/2:])
			refusesToReadTx(t, a+b)
		}
	}
}

// textBytes is the encoding of a string.
func textBytes(s string) string {
	return numBytes(len(s)) + s
}

func TestP82WitnessesDoNotChangeCores(t *testing.T) {
	for _, x := range bases() {
		core, id := txCoreOf(x), impl.TxId(x)
		seen := map[string]bool{}
		for i := range x.Ins {
			for _, witness := range fewWitnesses {
				other := withWitness(x, i, witness)
				if !txIsRight(t, other) {
					continue
				}
				if got, ok := impl.TxCore(other); !ok || got != core {
					t.Errorf("with the witness %.100q at %d the core of %v is %x", witness, i, x, got)
				}
				if got := impl.TxId(other); got != id {
					t.Errorf("with the witness %.100q at %d the id of %v is %d", witness, i, x, got)
				}
				s, _ := impl.TxBytes(other)
				if seen[s] && !slices.Equal(witness, x.Ins[i].Witness) {
					t.Errorf("with the witness %.100q at %d the bytes of %v are %x, as with another one", witness, i, x, s)
				}
				seen[s] = true
			}
		}
	}
}

func TestP83TxIdIsDigestOfTxCore(t *testing.T) {
	for _, x := range someTxs() {
		core, ok := impl.TxCore(x)
		if !ok {
			t.Fatalf("TxCore(%s) is false", told(x))
		}
		if id := impl.TxId(x); id != digestOf(core) || id != impl.Digest(core) || id < 0 || id > impl.NumTop {
			t.Errorf("TxId(%s) is %d, and the digest of its core %d", told(x), id, digestOf(core))
		}
	}
}

func TestP84WitnessesDoNotChangeWhatIsSigned(t *testing.T) {
	for _, x := range bases() {
		for at := range x.Ins {
			want, ok := impl.SignText(x, at, 300, "lock")
			if !ok {
				t.Fatalf("SignText(%v, %d) is false", x, at)
			}
			for i := range x.Ins {
				for _, witness := range fewWitnesses {
					other := withWitness(x, i, witness)
					if !txIsOk(other) {
						refusesToSign(t, other, at, 300, "lock")
						continue
					}
					if got, ok := impl.SignText(other, at, 300, "lock"); !ok || got != want {
						t.Errorf("with the witness %.100q at %d SignText(%v, %d) is %x, %t", witness, i, x, at, got, ok)
					}
				}
			}
		}
	}
}

func TestSignTextsThatWereWrittenByHand(t *testing.T) {
	one := impl.Tx{Ins: []impl.In{{Tx: 5, Witness: []string{"w"}}}, Outs: []impl.Out{{Amount: 7, Lock: "a"}}}
	oneCore := "\x01\x00\x00\x00\x05\x00\x01\x07\x01a\x00\x00"
	twoCore := "\x02\x3a\x6b\x53\x9e\x02\x00\x00\x00\x05\x00\x02\xfd\x2c\x01\x04lock\xfe\x70\x11\x01\x00\x00\xfd\x2c\x01\x04note"
	for _, c := range []struct {
		x      impl.Tx
		i      int
		amount int
		lock   string
		want   string
	}{
		{one, 0, 1, "", "spend" + oneCore + "\x00\x01\x00"},
		{one, 0, 7, "a", "spend" + oneCore + "\x00\x07\x01a"},
		{one, 0, 252, "\x00", "spend" + oneCore + "\x00\xfc\x01\x00"},
		{one, 0, 253, "\xff\xfe", "spend" + oneCore + "\x00\xfd\xfd\x00\x02\xff\xfe"},
		{one, 0, 65535, "", "spend" + oneCore + "\x00\xfd\xff\xff\x00"},
		{one, 0, 65536, "", "spend" + oneCore + "\x00\xfe\x00\x00\x01\x00\x00"},
		{one, 0, 1000000, strings.Repeat("L", 300), "spend" + oneCore + "\x00\xfe\x40\x42\x0f\x00\xfd\x2c\x01" + strings.Repeat("L", 300)},
		{one, 0, 4096, strings.Repeat("L", 252), "spend" + oneCore + "\x00\xfd\x00\x10\xfc" + strings.Repeat("L", 252)},
		{one, 0, 4096, strings.Repeat("L", 253), "spend" + oneCore + "\x00\xfd\x00\x10\xfd\xfd\x00" + strings.Repeat("L", 253)},
		{ordinaryTx(), 0, 300, "lock", "spend" + twoCore + "\x00\xfd\x2c\x01\x04lock"},
		{ordinaryTx(), 1, 300, "lock", "spend" + twoCore + "\x01\xfd\x2c\x01\x04lock"},
		{ordinaryTx(), 1, 70001, "", "spend" + twoCore + "\x01\xfe\x71\x11\x01\x00\x00"},
	} {
		if got, ok := impl.SignText(c.x, c.i, c.amount, c.lock); !ok || got != c.want {
			t.Errorf("SignText(%v, %d, %d, %q) is %x, %t, want %x", c.x, c.i, c.amount, c.lock, got, ok, c.want)
		}
	}
}

func TestSignTextAtItsLimits(t *testing.T) {
	for _, x := range append(someTxs(), bases()...) {
		n := len(x.Ins)
		for i := -1; i <= n; i++ {
			got, ok := impl.SignText(x, i, 300, "lock")
			if i < 0 || i == n {
				refusesToSign(t, x, i, 300, "lock")
			} else if want := "spend" + txCoreOf(x) + numBytes(i) + "\xfd\x2c\x01\x04lock"; !ok || got != want {
				t.Errorf("SignText(%s, %d) is %x, %t, want %x", told(x), i, got, ok, want)
			}
		}
		for _, no := range []int{-2, -n, -n - 1, math.MinInt, n + 1, n + 6, n + 256, 1 << 32, 1<<32 + n - 1, math.MaxInt} {
			if no < 0 || no >= n {
				refusesToSign(t, x, no, 300, "lock")
			}
		}
	}
	for _, x := range bases() {
		for i := range x.Ins {
			for _, amount := range someAmounts {
				for _, n := range lockLengths {
					lock := manyBytes()[200:][:n]
					want := "spend" + txCoreOf(x) + numBytes(i) + numBytes(amount) + textBytes(lock)
					if got, ok := impl.SignText(x, i, amount, lock); !ok || got != want {
						t.Errorf("SignText(%v, %d, %d, %d bytes) is %x, %t, want %x", x, i, amount, n, got, ok, want)
					}
				}
				for _, n := range noLockLengths {
					refusesToSign(t, x, i, amount, strings.Repeat("l", n))
				}
				refusesToSign(t, x, i, amount, strings.Repeat("ä", 151))
			}
			for _, no := range noAmounts {
				for _, n := range append(noLockLengths, lockLengths...) {
					refusesToSign(t, x, i, no, strings.Repeat("l", n))
				}
			}
		}
	}
}

func TestSignTextTellsTheCoinAndTheInput(t *testing.T) {
	seen := map[string]string{}
	for k, x := range bases() {
		for i := range x.Ins {
			for _, amount := range []int{1, 2, 7, 252, 253, 300, 65536, 1000000} {
				for _, lock := range []string{"", "a", "b", "aa", "\x00", "\x01a", "\x07", "\x00\x01", strings.Repeat("a", 252), strings.Repeat("a", 253), strings.Repeat("a", 300)} {
					name := fmt.Sprintf("transaction %d, input %d, amount %d, lock %q", k, i, amount, lock)
					s, ok := impl.SignText(x, i, amount, lock)
					if other, there := seen[s]; there || !ok {
						t.Errorf("SignText of %s is %x, %t, as that of %s", name, s, ok, other)
					}
					seen[s] = name
				}
			}
		}
	}
}

func TestSignTextsOpenLocks(t *testing.T) {
	lock, _ := impl.LockKey(4194304)
	x := ordinaryTx()
	for i := range x.Ins {
		text, ok := impl.SignText(x, i, 4096, lock)
		if !ok {
			t.Fatalf("SignText of the input %d is false", i)
		}
		signed, ok := impl.WithWitness(x, i, mustOpen(t)(impl.OpenKey(11, text)))
		if !ok {
			t.Fatalf("WithWitness of the input %d is false", i)
		}
		for k := range x.Ins {
			for _, amount := range []int{4095, 4096} {
				text, _ := impl.SignText(signed, k, amount, lock)
				want := k == i && amount == 4096
				if got := impl.Unlock(lock, signed.Ins[i].Witness, impl.Env{Text: text}); got != want {
					t.Errorf("the witness of the input %d opens that of %d with the amount %d: %t", i, k, amount, got)
				}
			}
		}
	}
}

func TestP85WithWitness(t *testing.T) {
	for _, x := range append(bases(), fewTxs()...) {
		for i := range x.Ins {
			for _, witness := range fewWitnesses {
				want := withWitness(x, i, witness)
				got, ok := impl.WithWitness(x, i, witness)
				if !txIsOk(want) {
					refusesWitness(t, x, i, witness)
					continue
				}
				if !ok || !sameTx(got, want) || !slices.Equal(got.Ins[i].Witness, witness) {
					t.Errorf("WithWitness(%v, %d, %.100q) is %v, %t", x, i, witness, got, ok)
				}
				core, ok := impl.TxCore(got)
				if before, _ := impl.TxCore(x); !ok || core != before || core != txCoreOf(x) {
					t.Errorf("the core of WithWitness(%v, %d, %.100q) is %x, %t", x, i, witness, core, ok)
				}
			}
		}
	}
}

func TestWithWitnessOfOtherIndexes(t *testing.T) {
	for _, x := range someTxs() {
		n := len(x.Ins)
		for i := -1; i <= n; i++ {
			got, ok := impl.WithWitness(x, i, nil)
			if i < 0 || i == n {
				refusesWitness(t, x, i, nil)
				refusesWitness(t, x, i, []string{"w"})
			} else if !ok || !sameTx(got, withWitness(x, i, nil)) {
				t.Errorf("WithWitness(%s, %d) is %s, %t", told(x), i, told(got), ok)
			}
		}
		for _, no := range []int{-2, -n - 1, math.MinInt, n + 1, n + 6, n + 256, 1 << 32, 1<<32 + n, math.MaxInt} {
			refusesWitness(t, x, no, nil)
			refusesWitness(t, x, no, []string{"w"})
		}
	}
}

func TestWithWitnessRefusesWhatIsNoStack(t *testing.T) {
	for _, x := range bases() {
		for i := range x.Ins {
			for _, no := range noWitnesses {
				refusesWitness(t, x, i, no)
			}
			for n := range 60 {
				if _, ok := impl.WithWitness(x, i, falseItems(n)); ok != (n <= 24) {
					t.Errorf("WithWitness of %d items is %t", n, ok)
				}
			}
			for n := range 120 {
				if _, ok := impl.WithWitness(x, i, []string{strings.Repeat("w", n)}); ok != (n <= 80) {
					t.Errorf("WithWitness of an item of %d bytes is %t", n, ok)
				}
			}
		}
	}
}

// witnessIsPut tells where WithWitness at the last input is not as wanted.
func witnessIsPut(t *testing.T, x impl.Tx, witness []string, want bool) {
	t.Helper()
	last := len(x.Ins) - 1
	if !want {
		refusesWitness(t, x, last, witness)
		return
	}
	if got, ok := impl.WithWitness(x, last, witness); !ok || !sameTx(got, withWitness(x, last, witness)) {
		t.Errorf("WithWitness(%s, %d, %.200q) is %s, %t", told(x), last, witness, told(got), ok)
	}
}

func TestWithWitnessOfTooManyBytes(t *testing.T) {
	long, heavy := longTx(2994, 2), heavyTx(2994)
	for n := 2905; n <= 3000; n += 5 {
		for _, x := range []impl.Tx{longTx(n-6, 2), longTx(n-6, 5)} {
			x.Ins = append(x.Ins, impl.In{Tx: 77})
			if len(txBytesOf(x)) != n {
				t.Fatalf("a transaction of %d bytes has %d", n, len(txBytesOf(x)))
			}
			for length := range 81 {
				witnessIsPut(t, x, []string{strings.Repeat("b", length)}, n+1+length <= 3000)
			}
			for items := range 25 {
				witnessIsPut(t, x, falseItems(items), n+items <= 3000)
				witnessIsPut(t, x, slices.Repeat([]string{"w"}, items), n+2*items <= 3000)
			}
			witnessIsPut(t, x, slices.Repeat([]string{strings.Repeat("w", 80)}, 24), false)
		}
	}
	for _, x := range []impl.Tx{long, heavy, longTx(3000, 6), heavyTx(3000)} {
		for i := range x.Ins {
			if got, ok := impl.WithWitness(x, i, x.Ins[i].Witness); !ok || !sameTx(got, x) {
				t.Errorf("WithWitness of the witness that is there, at %d, is %s, %t", i, told(got), ok)
			}
			if got, ok := impl.WithWitness(x, i, nil); !ok || !sameTx(got, withWitness(x, i, nil)) {
				t.Errorf("WithWitness of no item, at %d, is %s, %t", i, told(got), ok)
			}
			refusesWitness(t, x, i, slices.Repeat([]string{strings.Repeat("w", 80)}, 24))
			refusesWitness(t, x, i, append(slices.Clone(x.Ins[i].Witness), "seven b"))
		}
	}
	for n := 3001; n < 3100; n++ {
		for _, x := range []impl.Tx{longTx(n, 3), heavyTx(n)} {
			for i := range x.Ins {
				refusesWitness(t, x, i, nil)
				refusesWitness(t, x, i, []string{""})
				refusesWitness(t, x, i, x.Ins[i].Witness)
			}
		}
	}
}

func TestWithWitnessOfWhatIsNotValidBefore(t *testing.T) {
	for _, no := range noWitnesses {
		for i := range 2 {
			x := withWitness(ordinaryTx(), i, no)
			for _, witness := range fewWitnesses {
				refusesWitness(t, x, 0, witness)
				refusesWitness(t, x, 1, witness)
			}
		}
	}
	twice := impl.Tx{Ins: []impl.In{{Tx: 5, Witness: []string{"a"}}, {Tx: 5, Witness: []string{"b"}}}, Outs: []impl.Out{{Amount: 7}}}
	refusesWitness(t, twice, 0, []string{"c"})
	refusesWitness(t, twice, 1, []string{"c"})
}

// otherCores are transactions that are valid by themselves and differ from one another, and from the given one, in other fields than witnesses.
func otherCores(x impl.Tx) []impl.Tx {
	var list []impl.Tx
	add := func(change func(x *impl.Tx)) { list = append(list, changedTx(x, change)) }
	for i := range x.Ins {
		add(func(x *impl.Tx) { x.Ins[i].Tx++ })
		add(func(x *impl.Tx) { x.Ins[i].Tx += 256 })
		add(func(x *impl.Tx) { x.Ins[i].Tx ^= 1 << 31 })
		add(func(x *impl.Tx) { x.Ins[i].Out = (x.Ins[i].Out + 1) % 6 })
		add(func(x *impl.Tx) { x.Ins[i].Out = (x.Ins[i].Out + 3) % 6 })
		add(func(x *impl.Tx) { x.Ins = slices.Delete(x.Ins, i, i+1) })
		add(func(x *impl.Tx) { x.Ins[0], x.Ins[i] = x.Ins[i], x.Ins[0] })
	}
	for i := range x.Outs {
		add(func(x *impl.Tx) { x.Outs[i].Amount++ })
		add(func(x *impl.Tx) { x.Outs[i].Amount += 256 })
		add(func(x *impl.Tx) { x.Outs[i].Amount += 65536 })
		add(func(x *impl.Tx) { x.Outs[i].Lock += "a" })
		add(func(x *impl.Tx) { x.Outs[i].Lock += "\x00" })
		add(func(x *impl.Tx) { x.Outs[i].Lock = "a" + x.Outs[i].Lock })
		add(func(x *impl.Tx) { x.Outs[i].Lock = "" })
		add(func(x *impl.Tx) { x.Outs = slices.Delete(x.Outs, i, i+1) })
		add(func(x *impl.Tx) { x.Outs[0], x.Outs[i] = x.Outs[i], x.Outs[0] })
	}
	add(func(x *impl.Tx) { x.Ins = append(x.Ins, impl.In{Tx: 77}) })
	add(func(x *impl.Tx) { x.Ins = nil })
	add(func(x *impl.Tx) { x.Outs = append(x.Outs, impl.Out{Amount: 1}) })
	add(func(x *impl.Tx) { x.Outs = append(x.Outs, impl.Out{Amount: 1, Lock: "\x00"}) })
	for _, after := range []int{1, 252, 253, 256} {
		add(func(x *impl.Tx) { x.After += after })
	}
	for _, note := range []string{"", "a", "\x00", "other"} {
		add(func(x *impl.Tx) { x.Note += note })
		add(func(x *impl.Tx) { x.Note = note + x.Note })
	}
	return slices.DeleteFunc(list, func(y impl.Tx) bool { return !txIsOk(y) })
}

// shiftedTxs are transactions whose fields, one behind the other without what is told of their lengths and numbers, are the same.
func shiftedTxs() []impl.Tx {
	pay := func(note string, outs ...impl.Out) impl.Tx { return impl.Tx{Outs: outs, Note: note} }
	return []impl.Tx{
		pay("b", impl.Out{Amount: 1, Lock: "a"}), pay("", impl.Out{Amount: 1, Lock: "ab"}), pay("ab", impl.Out{Amount: 1}),
		pay("", impl.Out{Amount: 1, Lock: "a\x02b"}), pay("", impl.Out{Amount: 1, Lock: "a"}, impl.Out{Amount: 2, Lock: "b"}),
		pay("", impl.Out{Amount: 1, Lock: "a\x02\x01b"}), pay("\x00", impl.Out{Amount: 1}), pay("", impl.Out{Amount: 1, Lock: "\x00"}),
		{Outs: []impl.Out{{Amount: 1}}, After: 1}, {Outs: []impl.Out{{Amount: 1}}, Note: "\x01"}, {Outs: []impl.Out{{Amount: 1, Lock: "\x01"}}},
		{Ins: []impl.In{{Tx: 1, Out: 2}}, Outs: []impl.Out{{Amount: 3}}}, {Ins: []impl.In{{Tx: 1}}, Outs: []impl.Out{{Amount: 2}, {Amount: 3}}}, {Ins: []impl.In{{Tx: 1}, {Tx: 2}}, Outs: []impl.Out{{Amount: 3}}},
		{Ins: []impl.In{{Tx: 2, Out: 1}}, Outs: []impl.Out{{Amount: 3}}}, {Ins: []impl.In{{Tx: 258}}, Outs: []impl.Out{{Amount: 3}}}, {Ins: []impl.In{{Tx: 1, Out: 3}}, Outs: []impl.Out{{Amount: 2}}},
		{Ins: []impl.In{{Tx: 1, Out: 2, Witness: []string{"\x03"}}}, Outs: []impl.Out{{Amount: 3}}}, {Ins: []impl.In{{Tx: 1, Witness: []string{"\x02"}}}, Outs: []impl.Out{{Amount: 3}}},
	}
}

func TestP86TransactionsWithTheSameCore(t *testing.T) {
	ofCore := map[string]impl.Tx{}
	coreOf := map[string]string{}
	met := 0
	for _, base := range append(someTxs(), shiftedTxs()...) {
		for _, x := range append(otherCores(base), base) {
			core, ok := impl.TxCore(x)
			if !ok {
				t.Fatalf("TxCore(%s) is false", told(x))
			}
			plain := withoutWitnesses(x)
			if other, there := ofCore[core]; there {
				met++
				if !sameTx(other, plain) {
					t.Errorf("%s and %s have the core %x", told(other), told(plain), core)
				}
			}
			ofCore[core] = plain
			name := fmt.Sprintf("%#v", plain)
			if other, there := coreOf[name]; there && other != core {
				t.Errorf("%s has the cores %x and %x", told(plain), core, other)
			}
			coreOf[name] = core
		}
	}
	if met < 100 || len(ofCore) < 5000 {
		t.Errorf("%d cores are there, %d of them twice", len(ofCore), met)
	}
}

func TestOtherFieldsChangeCores(t *testing.T) {
	for _, x := range bases() {
		core, _ := impl.TxCore(x)
		for _, y := range otherCores(x) {
			if got, ok := impl.TxCore(y); !ok || got == core != sameTx(withoutWitnesses(x), withoutWitnesses(y)) {
				t.Errorf("the core of %v is %x, %t, and that of %v is %x", y, got, ok, x, core)
			}
			if len(x.Ins) > 0 && len(y.Ins) > 0 {
				a, _ := impl.SignText(x, 0, 7, "a")
				b, ok := impl.SignText(y, 0, 7, "a")
				if !ok || a == b != sameTx(withoutWitnesses(x), withoutWitnesses(y)) {
					t.Errorf("SignText of %v is %x, %t, and of %v %x", y, b, ok, x, a)
				}
			}
		}
	}
}

// spoilTx changes all that a transaction holds, up to the capacity of its lists.
func spoilTx(x impl.Tx) {
	ins := x.Ins[:cap(x.Ins)]
	for i := range ins {
		items := ins[i].Witness[:cap(ins[i].Witness)]
		for k := range items {
			items[k] = "changed"
		}
		ins[i] = impl.In{Tx: 99, Out: 9, Witness: []string{"changed"}}
	}
	outs := x.Outs[:cap(x.Outs)]
	for i := range outs {
		outs[i] = impl.Out{Amount: 99, Lock: "changed"}
	}
}

// roomyTx is a transaction in new memory, all of whose lists have something behind them that another slice may share.
func roomyTx(x impl.Tx) impl.Tx {
	own := ownTx(x)
	for i := range own.Ins {
		own.Ins[i].Witness = behindIt(own.Ins[i].Witness, "behind", "further behind")
	}
	own.Ins = behindIt(own.Ins, impl.In{Tx: 88, Out: 8, Witness: []string{"behind"}})
	own.Outs = behindIt(own.Outs, impl.Out{Amount: 88, Lock: "behind"})
	return own
}

// wholeOf is all that a transaction of roomyTx holds, with what is behind its lists.
func wholeOf(x impl.Tx) string {
	var s strings.Builder
	for _, in := range x.Ins[:len(x.Ins)+1] {
		fmt.Fprintf(&s, "%d %d %q ", in.Tx, in.Out, in.Witness)
		if in.Tx != 88 {
			fmt.Fprintf(&s, "%q ", in.Witness[:len(in.Witness)+2])
		}
	}
	fmt.Fprintf(&s, "%v %d %q", x.Outs[:len(x.Outs)+1], x.After, x.Note)
	return s.String()
}

func TestTransactionsLeaveArgumentsAsTheyAre(t *testing.T) {
	broken := changedTx(ordinaryTx(), func(x *impl.Tx) { x.After = -1 })
	for _, x := range append(someTxs(), broken, longTx(3001, 2), wideTx(7, 1), wideTx(2, 0), impl.Tx{}) {
		given := roomyTx(x)
		want := wholeOf(given)
		witness := behindIt([]string{"w", "v"}, "behind", "further behind")
		impl.TxOk(given)
		impl.TxBytes(given)
		impl.TxCore(given)
		impl.TxId(given)
		for i := -1; i <= len(x.Ins); i++ {
			impl.SignText(given, i, 300, "lock")
			if changed, ok := impl.WithWitness(given, i, witness); ok {
				_ = append(changed.Ins[i].Witness, "more")
				_ = append(changed.Ins, impl.In{Tx: 99})
				_ = append(changed.Outs, impl.Out{Amount: 99})
				spoilTx(changed)
			}
			impl.WithWitness(given, i, noWitnesses[0])
		}
		if got := wholeOf(given); got != want {
			t.Errorf("%.300s became %.300s", want, got)
		}
		if got := witness[:4]; !slices.Equal(got, []string{"w", "v", "behind", "further behind"}) {
			t.Errorf("the witness became %q", got)
		}
	}
}

func TestTransactionsThatWereHandedOutAreOnesOwn(t *testing.T) {
	for _, x := range someTxs() {
		s := txBytesOf(x)
		first, _ := impl.TxRead(s)
		second, _ := impl.TxRead(s)
		spoilTx(first)
		if third, ok := impl.TxRead(s); !ok || !sameTx(third, x) || !sameTx(second, x) {
			t.Errorf("a change of what TxRead(%.200x) is changes what it is again: %s", s, told(third))
		}
		for i := range x.Ins {
			given := ownTx(x)
			witness := []string{"w", "v"}
			first, ok := impl.WithWitness(given, i, witness)
			if !ok {
				continue
			}
			want := ownTx(first)
			second, _ := impl.WithWitness(given, i, witness)
			spoilTx(first)
			if third, _ := impl.WithWitness(given, i, witness); !sameTx(given, x) || !sameTx(second, want) || !sameTx(third, want) || !slices.Equal(witness, []string{"w", "v"}) {
				t.Errorf("a change of WithWitness(%s, %d) changes the argument, %s, or what it is again: %s", told(x), i, told(given), told(third))
			}
			witness[0], witness[1] = "changed", "changed"
			spoilTx(given)
			if !sameTx(second, want) {
				t.Errorf("a change of the arguments changes WithWitness(%s, %d): %s", told(x), i, told(second))
			}
		}
	}
}

func TestListsOfOneTransactionShareNoMemory(t *testing.T) {
	for _, x := range someTxs() {
		read, _ := impl.TxRead(txBytesOf(x))
		results := []impl.Tx{read}
		if len(x.Ins) > 0 {
			if changed, ok := impl.WithWitness(roomyTx(x), len(x.Ins)-1, x.Ins[0].Witness); ok {
				results = append(results, changed)
			}
			if changed, ok := impl.WithWitness(roomyTx(x), 0, nil); ok {
				results = append(results, changed)
			}
		}
		for _, result := range results {
			want := ownTx(result)
			for i := range result.Ins {
				whole := result.Ins[i].Witness[:cap(result.Ins[i].Witness)]
				for k := range whole {
					whole[k] = "changed"
				}
				result.Ins[i].Witness = want.Ins[i].Witness
				if !sameTx(result, want) {
					t.Errorf("a change of the witness %d changes another one: %s, want %s", i, told(result), told(want))
				}
			}
		}
	}
}

func TestWitnessesThatAreGivenTwiceAreKeptTwice(t *testing.T) {
	witness := []string{"a", "b"}
	x, _ := impl.WithWitness(wideTx(2, 1), 0, witness)
	x, ok := impl.WithWitness(x, 1, witness)
	if !ok {
		t.Fatal("WithWitness is false")
	}
	x.Ins[0].Witness[0] = "changed"
	if !slices.Equal(x.Ins[1].Witness, []string{"a", "b"}) || !slices.Equal(witness, []string{"a", "b"}) {
		t.Errorf("a change of a witness changes another one: %v", x)
	}
	want := "\x02\x00\x00\x03\xe8\x00\x02\x07changed\x01b\x00\x00\x03\xe9\x01\x02\x01a\x01b\x01\x64\x06lock 0\x07\x04wide"
	if got, ok := impl.TxBytes(x); !ok || got != want {
		t.Errorf("TxBytes is %x, %t, want %x", got, ok, want)
	}
}
