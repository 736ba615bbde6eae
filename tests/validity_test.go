package tests

import (
	"fmt"
	"math/rand"
	"slices"
	"strings"
	"testing"

	"loop.example/workchain/impl"
)

// Locks that were written by hand: the key locks of the secrets 11, 22 and 33, the digest lock of abc, the timed lock
// by which 11 is paid with abc and 22 from the height 300 on, and the revocable lock of 11 and, from the age 5 on, 22.
const (
	lock11  = "\x00\x04\x00\x40\x00\x00\x0b"
	lock22  = "\x00\x04\x00\x08\xa0\x00\x0b"
	lock33  = "\x00\x04\x00\x01\x29\x90\x0b"
	lockAbc = "\x0a\x00\x04\x3a\x6b\x53\x9e\x04"
	lock300 = "\x06\x0a\x00\x04\x3a\x6b\x53\x9e\x04\x09\x00\x04\x00\x40\x00\x00\x0b\x07\x0d\xfd\x2c\x01\x00\x04\x00\x08\xa0\x00\x0b\x08"
	lockOld = "\x06\x00\x04\x00\x40\x00\x00\x0b\x07\x0e\x05\x00\x04\x00\x08\xa0\x00\x0b\x08"
)

// outcome is what is told of a transaction that is applied to coins.
type outcome struct {
	fee   int
	code  int
	after []impl.Coin
	spent []impl.Coin
}

// signTextOf is the message that is signed for an input that spends a coin.
func signTextOf(x impl.Tx, i int, c impl.Coin) string {
	return "spend" + txCoreOf(x) + numBytes(i) + numBytes(c.Amount) + textBytes(c.Lock)
}

// createdBy are the coins that a transaction creates.
func createdBy(x impl.Tx, height int, isReward bool) []impl.Coin {
	id := digestOf(txCoreOf(x))
	var list []impl.Coin
	for i, out := range x.Outs {
		list = append(list, impl.Coin{Tx: id, Out: i, Amount: out.Amount, Lock: out.Lock, Height: height, Reward: isReward})
	}
	return list
}

// isOneThere tells whether one of the coins of a list has the Tx and the Out of one of another list.
func isOneThere(list []impl.Coin, others []impl.Coin) bool {
	return slices.ContainsFunc(others, func(c impl.Coin) bool { return coinAt(list, c.Tx, c.Out) >= 0 })
}

// amountsOf is the sum of amounts.
func amountsOf(list []impl.Coin) int {
	sum := 0
	for _, c := range list {
		sum += c.Amount
	}
	return sum
}

// outcomeOf is what must be told of a transaction: the rules of the document, written down a second time.
func outcomeOf(coins []impl.Coin, height int, x impl.Tx) outcome {
	if !coinsAreOk(coins) || height <= 0 || height >= 10000 || !txIsOk(x) || len(x.Ins) == 0 {
		return outcome{code: 1}
	}
	if height < x.After {
		return outcome{code: 2}
	}
	var spent []impl.Coin
	left := slices.Clone(coins)
	for i, in := range x.Ins {
		at := coinAt(coins, in.Tx, in.Out)
		if at < 0 {
			return outcome{code: 3}
		}
		c := coins[at]
		if c.Reward && height < c.Height+2 {
			return outcome{code: 4}
		}
		if !impl.Unlock(c.Lock, in.Witness, impl.Env{Text: signTextOf(x, i, c), Height: height, Age: height - c.Height}) {
			return outcome{code: 5}
		}
		spent = append(spent, c)
		left = slices.DeleteFunc(left, func(other impl.Coin) bool { return other == c })
	}
	created := createdBy(x, height, false)
	fee := amountsOf(spent) - amountsOf(created)
	if fee < 0 {
		return outcome{code: 6}
	}
	if isOneThere(coins, created) {
		return outcome{code: 7}
	}
	if len(left)+len(created) >= 81 {
		return outcome{code: 8}
	}
	return outcome{fee: fee, after: orderedCoins(append(left, created...)), spent: spent}
}

// undoneFrom are the coins before a transaction, if there are such coins: the rules of the document, written down a second time.
func undoneFrom(coins []impl.Coin, x impl.Tx, spent []impl.Coin) ([]impl.Coin, bool) {
	if !coinsAreOk(coins) || !txIsOk(x) || len(x.Ins) == 0 || len(spent) != len(x.Ins) {
		return nil, false
	}
	left := slices.Clone(coins)
	for _, c := range createdBy(x, 0, false) {
		at := coinAt(left, c.Tx, c.Out)
		if at < 0 || left[at].Amount != c.Amount || left[at].Lock != c.Lock || left[at].Reward {
			return nil, false
		}
		left = withoutCoin(left, at)
	}
	for i, c := range spent {
		if !coinIsOk(c) || c.Tx != x.Ins[i].Tx || c.Out != x.Ins[i].Out {
			return nil, false
		}
	}
	if isOneThere(left, spent) || len(left)+len(spent) > 80 {
		return nil, false
	}
	return orderedCoins(append(left, spent...)), true
}

// rewardedWith are the coins after a reward, if it is one: the rules of the document, written down a second time.
func rewardedWith(coins []impl.Coin, height int, x impl.Tx) ([]impl.Coin, bool) {
	if !coinsAreOk(coins) || height <= 0 || height >= 10000 || !txIsOk(x) || len(x.Ins) != 0 || x.After != height {
		return nil, false
	}
	created := createdBy(x, height, true)
	if isOneThere(coins, created) || len(coins)+len(created) > 80 {
		return nil, false
	}
	return orderedCoins(append(slices.Clone(coins), created...)), true
}

// applyIsRight tells where TxCheck or TxApply is not as the document tells, and returns what it is to be.
func applyIsRight(t *testing.T, coins []impl.Coin, height int, x impl.Tx) outcome {
	t.Helper()
	want := outcomeOf(coins, height, x)
	if fee, code := impl.TxCheck(coins, height, x); fee != want.fee || code != want.code {
		t.Errorf("TxCheck(%s, %d, %s) is %d, %d, want %d, %d", toldCoins(coins), height, told(x), fee, code, want.fee, want.code)
	}
	if after, spent, code := impl.TxApply(coins, height, x); code != want.code || !slices.Equal(after, want.after) || !slices.Equal(spent, want.spent) {
		t.Errorf("TxApply(%s, %d, %s) is %s, %s, %d, want %s, %s, %d", toldCoins(coins), height, told(x), toldCoins(after), toldCoins(spent), code, toldCoins(want.after), toldCoins(want.spent), want.code)
	}
	return want
}

// codeIs tells where a transaction has another code than it must have.
func codeIs(t *testing.T, coins []impl.Coin, height int, x impl.Tx, want int) {
	t.Helper()
	if got := applyIsRight(t, coins, height, x).code; got != want {
		t.Errorf("the code of %s for the height %d and %s is %d, want %d", told(x), height, toldCoins(coins), got, want)
	}
}

// undoIsRight tells where TxUndo is not as the document tells, and returns whether it is true.
func undoIsRight(t *testing.T, coins []impl.Coin, x impl.Tx, spent []impl.Coin) bool {
	t.Helper()
	want, can := undoneFrom(coins, x, spent)
	if got, ok := impl.TxUndo(coins, x, spent); ok != can || !slices.Equal(got, want) {
		t.Errorf("TxUndo(%s, %s, %s) is %s, %t, want %s, %t", toldCoins(coins), told(x), toldCoins(spent), toldCoins(got), ok, toldCoins(want), can)
	}
	return can
}

// undoes tells where TxUndo is right or not other than it must be.
func undoes(t *testing.T, coins []impl.Coin, x impl.Tx, spent []impl.Coin, want bool) {
	t.Helper()
	if can := undoIsRight(t, coins, x, spent); can != want {
		t.Errorf("%s can be undone from %s and %s: %t", told(x), toldCoins(coins), toldCoins(spent), can)
	}
}

// rewardIsRight tells where TxReward is not as the document tells, and returns whether it is true.
func rewardIsRight(t *testing.T, coins []impl.Coin, height int, x impl.Tx) bool {
	t.Helper()
	want, can := rewardedWith(coins, height, x)
	if got, ok := impl.TxReward(coins, height, x); ok != can || !slices.Equal(got, want) {
		t.Errorf("TxReward(%s, %d, %s) is %s, %t, want %s, %t", toldCoins(coins), height, told(x), toldCoins(got), ok, toldCoins(want), can)
	}
	return can
}

// rewards tells where TxReward is true or not other than it must be.
func rewards(t *testing.T, coins []impl.Coin, height int, x impl.Tx, want bool) {
	t.Helper()
	if can := rewardIsRight(t, coins, height, x); can != want {
		t.Errorf("%s is a reward for the height %d and %s: %t", told(x), height, toldCoins(coins), can)
	}
}

// openedTx is a transaction whose inputs have the witnesses that open the coins they spend: the signature of the secret
// with the same index for a key lock, or w for the empty lock, where the secret is 0.
func openedTx(x impl.Tx, coins []impl.Coin, secrets ...int) impl.Tx {
	for i, in := range x.Ins {
		witness := []string{"w"}
		if secret := append(secrets, make([]int, 6)...)[i]; secret != 0 {
			at := slices.IndexFunc(coins, func(c impl.Coin) bool { return c.Tx == in.Tx && c.Out == in.Out })
			witness = []string{sigItem(secret, signTextOf(x, i, coins[at]))}
		}
		x = withWitness(x, i, witness)
	}
	return x
}

// openCoins are n valid coins of 10 with the empty lock, which each item that is true opens.
func openCoins(n int) []impl.Coin {
	var list []impl.Coin
	for i := range n {
		list = append(list, impl.Coin{Tx: 100 + i, Out: i % 6, Amount: 10, Height: 3})
	}
	return list
}

// spenderOf is a transaction that spends coins with the empty lock and has outputs of these amounts.
func spenderOf(coins []impl.Coin, amounts ...int) impl.Tx {
	x := impl.Tx{}
	for _, c := range coins {
		x.Ins = append(x.Ins, impl.In{Tx: c.Tx, Out: c.Out, Witness: []string{"w"}})
	}
	for i, amount := range amounts {
		x.Outs = append(x.Outs, impl.Out{Amount: amount, Lock: strings.Repeat("\x02", i)})
	}
	return x
}

// filledTo are coins with further ones, n of them in all.
func filledTo(coins []impl.Coin, n int) []impl.Coin {
	own := slices.Clone(coins)
	for len(own) < n {
		own = append(own, impl.Coin{Tx: 1000000 + len(own), Out: len(own) % 6, Amount: 1, Height: 9})
	}
	return orderedCoins(own)
}

// scene is a transaction that is applied to coins for a height.
type scene struct {
	coins  []impl.Coin
	height int
	x      impl.Tx
}

// ordinaryScene is one of two inputs, which are not in the order of the coins, and three outputs.
func ordinaryScene() scene {
	return scene{
		[]impl.Coin{
			{Tx: 500, Out: 1, Amount: 70, Lock: lock11, Height: 20}, {Tx: 700, Amount: 1000, Lock: lock33, Height: 29, Reward: true}, {Tx: 900, Out: 4, Amount: 50, Lock: lock22, Height: 20},
		},
		30,
		impl.Tx{
			Ins:   []impl.In{{Tx: 900, Out: 4, Witness: []string{"\x0f\x80\xf1\xfd\x21\x9e\xbe\x15"}}, {Tx: 500, Out: 1, Witness: []string{"\x16\x6e\x8c\x9b\x26\xd4\x14\x5d"}}},
			Outs:  []impl.Out{{Amount: 60, Lock: lock33}, {Amount: 40, Lock: lockAbc}, {Amount: 15}},
			After: 30, Note: "two",
		},
	}
}

// fixedScene is a scene with what comes of it.
type fixedScene struct {
	scene
	fee   int
	after []impl.Coin
	spent []impl.Coin
}

// fixedScenes were written by hand; the ids and the signatures were reckoned by a separate script.
func fixedScenes() []fixedScene {
	two := ordinaryScene()
	timed := impl.Coin{Tx: 6, Out: 5, Amount: 1000000, Lock: lock300, Height: 40}
	old := impl.Coin{Tx: 6, Out: 5, Amount: 300, Lock: lockOld, Height: 40, Reward: true}
	one := func(witness ...string) []impl.In { return []impl.In{{Tx: 6, Out: 5, Witness: witness}} }
	return []fixedScene{
		{
			scene{[]impl.Coin{{Tx: 5, Amount: 10, Lock: lockAbc, Height: 3}}, 3, impl.Tx{Ins: []impl.In{{Tx: 5, Witness: []string{"abc"}}}, Outs: []impl.Out{{Amount: 7, Lock: "a"}}}},
			3, []impl.Coin{{Tx: 1589716255, Amount: 7, Lock: "a", Height: 3}}, []impl.Coin{{Tx: 5, Amount: 10, Lock: lockAbc, Height: 3}},
		},
		{
			two, 5,
			[]impl.Coin{two.coins[1], {Tx: 2821613692, Amount: 60, Lock: lock33, Height: 30}, {Tx: 2821613692, Out: 1, Amount: 40, Lock: lockAbc, Height: 30}, {Tx: 2821613692, Out: 2, Amount: 15, Height: 30}},
			[]impl.Coin{two.coins[2], two.coins[0]},
		},
		{
			scene{
				[]impl.Coin{two.coins[1], {Tx: 2821613692, Amount: 60, Lock: lock33, Height: 30}, {Tx: 2821613692, Out: 1, Amount: 40, Lock: lockAbc, Height: 30}, {Tx: 2821613692, Out: 2, Amount: 15, Height: 30}},
				9999,
				impl.Tx{Ins: []impl.In{{Tx: 2821613692, Out: 1, Witness: []string{"abc"}}, {Tx: 2821613692, Witness: []string{"\x6d\x40\xf9\x19\x16\xcd\x2e\x44"}}}, Outs: []impl.Out{{Amount: 99, Lock: lock11}}, After: 31},
			},
			1, []impl.Coin{two.coins[1], {Tx: 1406813519, Amount: 99, Lock: lock11, Height: 9999}, {Tx: 2821613692, Out: 2, Amount: 15, Height: 30}},
			[]impl.Coin{{Tx: 2821613692, Out: 1, Amount: 40, Lock: lockAbc, Height: 30}, {Tx: 2821613692, Amount: 60, Lock: lock33, Height: 30}},
		},
		{
			scene{[]impl.Coin{timed}, 300, impl.Tx{Ins: one("\x66\xc6\x4d\x2b\x34\x9f\x59\x0d", ""), Outs: []impl.Out{{Amount: 1000000}}}},
			0, []impl.Coin{{Tx: 1951579939, Amount: 1000000, Height: 300}}, []impl.Coin{timed},
		},
		{
			scene{[]impl.Coin{timed}, 1, impl.Tx{Ins: one("\x6e\x24\x1c\x48\x1b\x43\x2b\x0b", "abc", "\x01"), Outs: []impl.Out{{Amount: 1000000}}}},
			0, []impl.Coin{{Tx: 1951579939, Amount: 1000000, Height: 1}}, []impl.Coin{timed},
		},
		{
			scene{[]impl.Coin{old}, 45, impl.Tx{Ins: one("\x0a\xb4\x96\x67\x1f\x4a\x57\x12", ""), Outs: []impl.Out{{Amount: 1}}}},
			299, []impl.Coin{{Tx: 342321719, Amount: 1, Height: 45}}, []impl.Coin{old},
		},
		{
			scene{[]impl.Coin{old}, 42, impl.Tx{Ins: one("\x5f\x84\x7d\x55\x2c\x2d\xbe\x6f", "\x01"), Outs: []impl.Out{{Amount: 1}}}},
			299, []impl.Coin{{Tx: 342321719, Amount: 1, Height: 42}}, []impl.Coin{old},
		},
		{
			scene{openCoins(3)[1:], 12, impl.Tx{Ins: []impl.In{{Tx: 102, Out: 2, Witness: []string{"yes"}}, {Tx: 101, Out: 1, Witness: []string{"\x00"}}}, Outs: []impl.Out{{Amount: 20}}}},
			0, []impl.Coin{{Tx: 2761150613, Amount: 20, Height: 12}}, []impl.Coin{{Tx: 102, Out: 2, Amount: 10, Height: 3}, {Tx: 101, Out: 1, Amount: 10, Height: 3}},
		},
	}
}

// goodScenes are scenes of transactions that can be applied.
func goodScenes() []scene {
	var list []scene
	for _, c := range fixedScenes() {
		list = append(list, c.scene)
	}
	for n := 1; n <= 6; n++ {
		for m := 1; m <= 6; m++ {
			coins := openCoins(8)
			x := spenderOf(coins[2:2+n], slices.Repeat([]int{1}, m)...)
			list = append(list, scene{coins, 10*n + m, x}, scene{filledTo(coins, min(80, 80+n-m)), 9999, x})
		}
	}
	for n := 1; n <= 6; n++ {
		rich := slices.Clone(openCoins(n))
		for i := range rich {
			rich[i].Amount = 1000000
		}
		list = append(list, scene{rich, 5, spenderOf(rich, 1)}, scene{rich, 5, spenderOf(rich, 1000000)})
	}
	old := openCoins(2)
	old[0].Reward, old[1].Height = true, 9999
	return append(list, scene{old, 5, spenderOf(old, 20)}, scene{old, 9999, spenderOf(old, 3, 17)}, scene{old, 9998, changedTx(spenderOf(old, 3), func(x *impl.Tx) { x.After = 9998 })})
}

func TestTransactionsThatWereAppliedByHand(t *testing.T) {
	for _, c := range fixedScenes() {
		if fee, code := impl.TxCheck(c.coins, c.height, c.x); fee != c.fee || code != impl.TxFine {
			t.Errorf("TxCheck(%v, %d, %v) is %d, %d, want %d", c.coins, c.height, c.x, fee, code, c.fee)
		}
		if after, spent, code := impl.TxApply(c.coins, c.height, c.x); code != impl.TxFine || !slices.Equal(after, c.after) || !slices.Equal(spent, c.spent) {
			t.Errorf("TxApply(%v, %d, %v) is %v, %v, %d, want %v, %v", c.coins, c.height, c.x, after, spent, code, c.after, c.spent)
		}
		if before, ok := impl.TxUndo(c.after, c.x, c.spent); !ok || !slices.Equal(before, c.coins) {
			t.Errorf("TxUndo(%v, %v, %v) is %v, %t, want %v", c.after, c.x, c.spent, before, ok, c.coins)
		}
		codeIs(t, c.coins, c.height, c.x, impl.TxFine)
	}
}

func TestCodesOfTransactions(t *testing.T) {
	codes := []int{impl.TxFine, impl.TxBad, impl.TxEarly, impl.TxMissing, impl.TxYoung, impl.TxLocked, impl.TxShort, impl.TxThere, impl.TxFull}
	for want, code := range codes {
		if code != want {
			t.Errorf("the code %d is %d", want, code)
		}
	}
	if impl.RewardWait != 2 {
		t.Errorf("RewardWait is %d", impl.RewardWait)
	}
}

// inFault is what is wrong with an input.
type inFault struct{ isMissing, isYoung, isLocked bool }

// faults are what is wrong with a scene, in the order in which it is checked.
type faults struct {
	isBad   bool
	isEarly bool
	ins     [2]inFault
	isShort bool
	isThere bool
	isFull  bool
}

// allFaults are all choices of what is wrong.
func allFaults() []faults {
	var list []faults
	for n := range 1 << 11 {
		is := func(k int) bool { return n>>k&1 == 1 }
		in := func(k int) inFault { return inFault{is(k), is(k + 1), is(k + 2)} }
		list = append(list, faults{is(0), is(1), [2]inFault{in(2), in(5)}, is(8), is(9), is(10)})
	}
	return list
}

// code is that of the first one of the faults.
func (f faults) code() int {
	switch {
	case f.isBad:
		return impl.TxBad
	case f.isEarly:
		return impl.TxEarly
	}
	for _, in := range f.ins {
		switch {
		case in.isMissing:
			return impl.TxMissing
		case in.isYoung:
			return impl.TxYoung
		case in.isLocked:
			return impl.TxLocked
		}
	}
	switch {
	case f.isShort:
		return impl.TxShort
	case f.isThere:
		return impl.TxThere
	case f.isFull:
		return impl.TxFull
	}
	return impl.TxFine
}

// scene is the ordinary scene with these faults; what makes it bad is given.
func (f faults) scene(spoil func(s *scene)) scene {
	s := ordinaryScene()
	if f.isEarly {
		s.x.After = 31
	}
	if f.isShort {
		s.x.Outs[0].Amount = 66
	}
	secrets := []int{22, 11}
	for i, in := range f.ins {
		at := coinAt(s.coins, s.x.Ins[i].Tx, s.x.Ins[i].Out)
		if in.isYoung {
			s.coins[at].Reward, s.coins[at].Height = true, 29
		}
		if in.isLocked {
			secrets[i] = 44
		}
	}
	s.x = openedTx(s.x, s.coins, secrets...)
	kept := slices.Clone(s.coins)
	for i, in := range f.ins {
		if in.isMissing {
			kept = withoutCoin(kept, coinAt(kept, s.x.Ins[i].Tx, s.x.Ins[i].Out))
		}
	}
	if f.isThere {
		kept = orderedCoins(append(kept, impl.Coin{Tx: impl.TxId(s.x), Out: 1, Amount: 9}))
	}
	if f.isFull {
		kept = filledTo(kept, 80)
	}
	s.coins = kept
	if f.isBad {
		spoil(&s)
	}
	return s
}

// spoilers make a scene bad, each in its own way.
func spoilers() []func(s *scene) {
	return []func(s *scene){
		func(s *scene) { s.height = 0 },
		func(s *scene) { s.height = 10000 },
		func(s *scene) { s.coins = append(slices.Clone(s.coins), plainCoins(0, 0, 0, 0)...) },
		func(s *scene) { s.coins = filledTo(s.coins, 81) },
		func(s *scene) { s.coins = orderedCoins(append(slices.Clone(s.coins), impl.Coin{Tx: 3})) },
		func(s *scene) { s.x.Note = strings.Repeat("n", 21) },
		func(s *scene) { s.x.After = 10000 },
		func(s *scene) { s.x.Ins[1] = s.x.Ins[0] },
		func(s *scene) { s.x.Ins[0].Witness = []string{strings.Repeat("w", 81)} },
		func(s *scene) { s.x.Outs[2].Amount = 1000000 },
		func(s *scene) { s.x.Outs = nil },
		func(s *scene) { s.x.Ins = nil },
		func(s *scene) { s.x.Ins, s.x.After = nil, s.height },
	}
}

func TestEachFaultOnItsOwnAndWithOthers(t *testing.T) {
	ways := spoilers()
	for n, f := range allFaults() {
		s := f.scene(ways[n/2%len(ways)])
		codeIs(t, s.coins, s.height, s.x, f.code())
	}
	for _, way := range ways {
		s := faults{isBad: true}.scene(way)
		codeIs(t, s.coins, s.height, s.x, impl.TxBad)
	}
}

func TestFaultsOfInputsInEitherOrder(t *testing.T) {
	for _, f := range allFaults() {
		if f.isBad || f.isEarly || f.isThere {
			continue
		}
		s := f.scene(nil)
		slices.Reverse(s.x.Ins)
		f.ins[0], f.ins[1] = f.ins[1], f.ins[0]
		// The signatures are those of other messages now.
		for i := range f.ins {
			f.ins[i].isLocked = true
		}
		codeIs(t, s.coins, s.height, s.x, f.code())
	}
}

func TestP95TxCheckIsFineJustIfTxApplyIs(t *testing.T) {
	check := func(s scene) {
		t.Helper()
		fee, code := impl.TxCheck(s.coins, s.height, s.x)
		after, spent, same := impl.TxApply(s.coins, s.height, s.x)
		if code != same || fee < 0 || code != impl.TxFine && fee != 0 {
			t.Errorf("TxCheck(%s, %d, %s) is %d, %d, and TxApply %d", toldCoins(s.coins), s.height, told(s.x), fee, code, same)
		}
		if isFine := code == impl.TxFine; isFine != (len(spent) > 0) || isFine != (len(after) > 0) || isFine && len(spent) != len(s.x.Ins) {
			t.Errorf("TxApply(%s, %d, %s) is %s, %s, %d", toldCoins(s.coins), s.height, told(s.x), toldCoins(after), toldCoins(spent), code)
		}
	}
	for _, s := range goodScenes() {
		check(s)
		codeIs(t, s.coins, s.height, s.x, impl.TxFine)
	}
	ways := spoilers()
	for n, f := range allFaults() {
		check(f.scene(ways[n%len(ways)]))
	}
}

func TestP96CoinsAfterATransactionAndBeforeIt(t *testing.T) {
	for _, s := range goodScenes() {
		fee, _ := impl.TxCheck(s.coins, s.height, s.x)
		after, spent, code := impl.TxApply(s.coins, s.height, s.x)
		if sum := impl.CoinsSum(after); code != impl.TxFine || sum+fee != impl.CoinsSum(s.coins) || !impl.CoinsOk(after) || len(after) != len(s.coins)-len(s.x.Ins)+len(s.x.Outs) {
			t.Errorf("TxApply(%s, %d, %s) is %s, %d, with the sum %d and the fee %d", toldCoins(s.coins), s.height, told(s.x), toldCoins(after), code, sum, fee)
		}
		if before, ok := impl.TxUndo(after, s.x, spent); !ok || !slices.Equal(before, s.coins) {
			t.Errorf("TxUndo of TxApply(%s, %d, %s) is %s, %t", toldCoins(s.coins), s.height, told(s.x), toldCoins(before), ok)
		}
		for i, in := range s.x.Ins {
			if c := spent[i]; c.Tx != in.Tx || c.Out != in.Out || !slices.Contains(s.coins, c) || slices.Contains(after, c) {
				t.Errorf("TxApply(%s, %d, %s) tells as spent %s", toldCoins(s.coins), s.height, told(s.x), toldCoins(spent))
			}
		}
		for i, out := range s.x.Outs {
			want := impl.Coin{Tx: impl.TxId(s.x), Out: i, Amount: out.Amount, Lock: out.Lock, Height: s.height}
			if c, ok := impl.CoinsFind(after, want.Tx, i); !ok || c != want {
				t.Errorf("TxApply(%s, %d, %s) creates %v, want %v", toldCoins(s.coins), s.height, told(s.x), c, want)
			}
		}
	}
}

func TestHeightsForWhichTransactionsAreChecked(t *testing.T) {
	coins := openCoins(2)
	for _, height := range append(append(timesFor(0), timesFor(9999)...), append(noHeights, lockHeights...)...) {
		isOk := height >= 1 && height <= 9999
		for _, after := range []int{0, 1, 2, height - 2, height - 1, height, height + 1, height + 2, 9998, 9999} {
			x := changedTx(spenderOf(coins, 20), func(x *impl.Tx) { x.After = after })
			want := impl.TxFine
			if !isOk || after < 0 || after > 9999 {
				want = impl.TxBad
			} else if after > height {
				want = impl.TxEarly
			}
			codeIs(t, coins, height, x, want)
		}
	}
	for height := -3; height < 10010; height += 7 {
		want := impl.TxBad
		if height >= 1 && height <= 9999 {
			want = impl.TxFine
		}
		codeIs(t, coins, height, spenderOf(coins, 20), want)
	}
}

func TestCoinsAndTransactionsThatAreNotValidAreBad(t *testing.T) {
	for _, list := range noCoins() {
		x := spenderOf(plainCoins(77, 3), 1)
		if len(list) > 0 && len(list) < 1000 {
			x = spenderOf(list[:1], 1)
		}
		codeIs(t, list, 30, x, impl.TxBad)
		undoes(t, list, x, plainCoins(77, 3), false)
		undoes(t, list, x, list[:1], false)
		rewards(t, list, 1, rewardTx(), false)
	}
	r := rand.New(rand.NewSource(1))
	for _, x := range bases() {
		for range 60 {
			broken := ownTx(x)
			breakTx(r, &broken)
			if txIsOk(broken) {
				continue
			}
			codeIs(t, openCoins(3), 300, broken, impl.TxBad)
			undoes(t, openCoins(3), broken, plainCoins(5, 0), false)
			rewards(t, openCoins(3), broken.After, broken, false)
		}
	}
	for _, x := range []impl.Tx{{}, rewardTx(), {Ins: []impl.In{{Tx: 100, Witness: []string{"w"}}}}, longTx(3001, 2), wideTx(7, 1), wideTx(1, 7)} {
		codeIs(t, openCoins(3), 9999, x, impl.TxBad)
	}
}

func TestCoinsThatAreMissing(t *testing.T) {
	coins := openCoins(6)
	x := spenderOf(coins, 60)
	codeIs(t, coins, 5, x, impl.TxFine)
	codeIs(t, nil, 5, x, impl.TxMissing)
	for i := range coins {
		codeIs(t, withoutCoin(coins, i), 5, x, impl.TxMissing)
		codeIs(t, changedCoins(coins, i, func(c *impl.Coin) { c.Out++ }), 5, x, map[bool]int{true: impl.TxMissing, false: impl.TxBad}[i < 5])
		codeIs(t, orderedCoins(changedCoins(coins, i, func(c *impl.Coin) { c.Tx += 50 })), 5, x, impl.TxMissing)
		codeIs(t, coins[i:i+1], 5, spenderOf(coins[i:i+1], 10), impl.TxFine)
		for _, c := range coins {
			want := impl.TxMissing
			if c == coins[i] {
				want = impl.TxFine
			}
			codeIs(t, coins[i:i+1], 5, spenderOf([]impl.Coin{c}, 10), want)
		}
	}
}

func TestAgesOfCoinsOfRewards(t *testing.T) {
	for _, at := range []int{0, 1, 2, 3, 20, 300, 9997, 9998, 9999} {
		for height := max(1, at-4); height <= min(9999, at+5); height++ {
			for _, isReward := range []bool{true, false} {
				coins := []impl.Coin{{Tx: 4, Amount: 10, Height: at, Reward: isReward}, {Tx: 5, Amount: 10}}
				want := impl.TxFine
				if isReward && height-at < 2 {
					want = impl.TxYoung
				}
				codeIs(t, coins, height, spenderOf(coins, 20), want)
				codeIs(t, coins, height, spenderOf(coins[:1], 10), want)
				codeIs(t, coins, height, spenderOf([]impl.Coin{coins[1], coins[0]}, 20), want)
				codeIs(t, coins, height, spenderOf(coins[1:], 10), impl.TxFine)
			}
		}
	}
	young := []impl.Coin{{Tx: 4, Amount: 10, Height: 9999, Reward: true}}
	for _, height := range []int{1, 2, 3, 100, 5000, 9997, 9998, 9999} {
		codeIs(t, young, height, spenderOf(young, 1), impl.TxYoung)
	}
}

func TestRewardsThatAreSpentTooEarly(t *testing.T) {
	reward := impl.Tx{Outs: []impl.Out{{Amount: 4096, Lock: lock11}}, After: 7}
	coins, ok := impl.TxReward(nil, 7, reward)
	if !ok {
		t.Fatal("TxReward is false")
	}
	x := openedTx(impl.Tx{Ins: []impl.In{{Tx: impl.TxId(reward)}}, Outs: []impl.Out{{Amount: 4000, Lock: lock22}}}, coins, 11)
	for height, want := range []int{impl.TxBad, impl.TxYoung, impl.TxYoung, impl.TxYoung, impl.TxYoung, impl.TxYoung, impl.TxYoung, impl.TxYoung, impl.TxYoung, impl.TxFine, impl.TxFine} {
		codeIs(t, coins, height, x, want)
	}
	// What a reward's coin was spent for is no reward's, and can be spent at once.
	after, _, _ := impl.TxApply(coins, 9, x)
	next := openedTx(impl.Tx{Ins: []impl.In{{Tx: impl.TxId(x)}}, Outs: []impl.Out{{Amount: 4000}}}, after, 22)
	codeIs(t, after, 9, next, impl.TxFine)
	codeIs(t, after, 1, next, impl.TxFine)
}

func TestSignaturesOfOtherMessagesDoNotOpenCoins(t *testing.T) {
	coins := []impl.Coin{{Tx: 4, Amount: 70, Lock: lock11, Height: 3}, {Tx: 5, Out: 2, Amount: 70, Lock: lock11, Height: 3}}
	x := impl.Tx{Ins: []impl.In{{Tx: 5, Out: 2}, {Tx: 4}}, Outs: []impl.Out{{Amount: 100}}, After: 2, Note: "n"}
	good := openedTx(x, coins, 11, 11)
	codeIs(t, coins, 3, good, impl.TxFine)
	codeIs(t, coins, 3, openedTx(x, coins, 22, 11), impl.TxLocked)
	codeIs(t, coins, 3, openedTx(x, coins, 11, 22), impl.TxLocked)
	codeIs(t, coins, 3, withWitness(good, 0, good.Ins[1].Witness), impl.TxLocked)
	codeIs(t, coins, 3, withWitness(good, 1, good.Ins[0].Witness), impl.TxLocked)
	for i := range x.Ins {
		for _, no := range [][]string{nil, {""}, {"\x01"}, {coinSig}, {sigItem(11, "")}, {sigItem(11, txCoreOf(x))}, {sigItem(11, txBytesOf(x))}, {sigItem(11, fourBytes(impl.TxId(x)))}, append(good.Ins[i].Witness, "\x01"), append([]string{"\x01"}, good.Ins[i].Witness...)} {
			codeIs(t, coins, 3, withWitness(good, i, no), impl.TxLocked)
		}
		at := coinAt(coins, x.Ins[i].Tx, x.Ins[i].Out)
		for _, amount := range []int{69, 71, 1, 1000000} {
			codeIs(t, changedCoins(coins, at, func(c *impl.Coin) { c.Amount = amount }), 3, good, impl.TxLocked)
		}
		for _, text := range []string{"x00400000 sign x dup drop drop", "dup drop x00400000 sign", "x00400000 x00400000 many:1:2", "x00400000 many:1:1", "x0008a000 sign"} {
			lock := scriptBytesOf(mustParse(t, text))
			other := changedCoins(coins, at, func(c *impl.Coin) { c.Lock = lock })
			codeIs(t, other, 3, good, impl.TxLocked)
			want := impl.TxFine
			if strings.Contains(text, "0008a000") {
				want = impl.TxLocked
			}
			codeIs(t, other, 3, openedTx(x, other, 11, 11), want)
		}
	}
	for _, change := range []func(x *impl.Tx){
		func(x *impl.Tx) { x.After = 1 }, func(x *impl.Tx) { x.Note = "m" }, func(x *impl.Tx) { x.Outs[0].Amount = 99 }, func(x *impl.Tx) { x.Outs[0].Lock = lock22 },
		func(x *impl.Tx) { x.Outs = append(x.Outs, impl.Out{Amount: 1}) }, func(x *impl.Tx) { slices.Reverse(x.Ins) }, func(x *impl.Tx) { x.Ins = x.Ins[:1] }, func(x *impl.Tx) { x.Ins = x.Ins[1:] },
	} {
		codeIs(t, coins, 3, changedTx(good, change), impl.TxLocked)
	}
	codeIs(t, coins, 9999, good, impl.TxFine)
	codeIs(t, changedCoins(coins, 0, func(c *impl.Coin) { c.Height = 9999 }), 3, good, impl.TxFine)
}

func TestLocksThatWantAHeightOrAnAge(t *testing.T) {
	one := func(c impl.Coin, above ...string) func(secret int) impl.Tx {
		return func(secret int) impl.Tx {
			x := openedTx(impl.Tx{Ins: []impl.In{{Tx: c.Tx, Out: c.Out}}, Outs: []impl.Out{{Amount: 1}}}, []impl.Coin{c}, secret)
			return withWitness(x, 0, append(x.Ins[0].Witness, above...))
		}
	}
	fineIf := func(isFine bool) int { return map[bool]int{true: impl.TxFine, false: impl.TxLocked}[isFine] }
	for _, at := range []int{0, 5, 295, 299, 300, 9999} {
		timed := impl.Coin{Tx: 6, Out: 5, Amount: 10, Lock: lock300, Height: at}
		for _, height := range []int{1, 2, 5, 100, 298, 299, 300, 301, 305, 600, 9999} {
			codeIs(t, []impl.Coin{timed}, height, one(timed, "")(22), fineIf(height >= 300))
			codeIs(t, []impl.Coin{timed}, height, one(timed, "")(11), impl.TxLocked)
			codeIs(t, []impl.Coin{timed}, height, one(timed, "abc", "\x01")(11), impl.TxFine)
			codeIs(t, []impl.Coin{timed}, height, one(timed, "abd", "\x01")(11), impl.TxLocked)
			codeIs(t, []impl.Coin{timed}, height, one(timed, "abc", "\x01")(22), impl.TxLocked)
			late := changedTx(impl.Tx{Ins: []impl.In{{Tx: 6, Out: 5}}, Outs: []impl.Out{{Amount: 1}}}, func(x *impl.Tx) { x.After = height })
			late = openedTx(late, []impl.Coin{timed}, 22)
			codeIs(t, []impl.Coin{timed}, height, withWitness(late, 0, append(late.Ins[0].Witness, "")), fineIf(height >= 300))
		}
		for _, isReward := range []bool{false, true} {
			old := impl.Coin{Tx: 6, Out: 5, Amount: 10, Lock: lockOld, Height: at, Reward: isReward}
			for height := max(1, at-3); height <= min(9999, at+8); height++ {
				want := fineIf(height-at >= 5)
				if isReward && height-at < 2 {
					want = impl.TxYoung
				}
				codeIs(t, []impl.Coin{old}, height, one(old, "")(22), want)
				if want == impl.TxLocked {
					want = impl.TxFine
				}
				codeIs(t, []impl.Coin{old}, height, one(old, "\x01")(11), want)
			}
		}
	}
}

func TestLocksOfOtherKinds(t *testing.T) {
	for _, c := range []struct {
		lock    string
		witness []string
		want    int
	}{
		{"", []string{"w"}, impl.TxFine}, {"", []string{""}, impl.TxLocked}, {"", nil, impl.TxLocked}, {"", []string{"w", "w"}, impl.TxLocked}, {"", []string{strings.Repeat("w", 80)}, impl.TxFine}, {"", []string{strings.Repeat("w", 81)}, impl.TxBad},
		{lockAbc, []string{"abc"}, impl.TxFine}, {lockAbc, []string{"abd"}, impl.TxLocked}, {lockAbc, []string{"abc", "abc"}, impl.TxLocked}, {lockAbc, nil, impl.TxLocked},
		{"\xff", []string{"w"}, impl.TxLocked}, {"lock", []string{"w"}, impl.TxLocked}, {strings.Repeat("L", 300), []string{"w"}, impl.TxLocked}, {"\x06", []string{"w"}, impl.TxLocked}, {"\x05", []string{""}, impl.TxFine}, {"\x05", []string{"w"}, impl.TxLocked},
		{"\x0d\x0c", []string{"w"}, impl.TxLocked}, {"\x0d\x0b", []string{"w"}, impl.TxFine}, {"\x0e\x09", []string{"w"}, impl.TxLocked}, {"\x0e\x08", []string{"w"}, impl.TxFine}, {"\x09", []string{"w", "v"}, impl.TxFine},
	} {
		coins := []impl.Coin{{Tx: 4, Amount: 10, Lock: c.lock, Height: 3}}
		codeIs(t, coins, 11, withWitness(spenderOf(coins, 10), 0, c.witness), c.want)
	}
	shared := madeMany(2, secretKey(11), secretKey(22), secretKey(33))
	coins := []impl.Coin{{Tx: 4, Amount: 10, Lock: shared.lock, Height: 3}}
	x := spenderOf(coins, 10)
	text := signTextOf(x, 0, coins[0])
	for _, c := range []struct {
		secrets []int
		want    int
	}{{[]int{11, 22}, impl.TxFine}, {[]int{11, 33}, impl.TxFine}, {[]int{22, 33}, impl.TxFine}, {[]int{22, 11}, impl.TxLocked}, {[]int{11, 44}, impl.TxLocked}, {[]int{11, 11}, impl.TxLocked}, {[]int{11}, impl.TxLocked}} {
		codeIs(t, coins, 11, withWitness(x, 0, mustOpen(t)(impl.OpenMany(c.secrets, text))), c.want)
	}
}

func TestFeesOfTransactions(t *testing.T) {
	for _, c := range []struct {
		coins   []int
		outs    []int
		fee     int
		isShort bool
	}{
		{[]int{1}, []int{1}, 0, false}, {[]int{2}, []int{1}, 1, false}, {[]int{1}, []int{2}, 0, true}, {[]int{100}, []int{99}, 1, false}, {[]int{100}, []int{100}, 0, false}, {[]int{100}, []int{101}, 0, true},
		{[]int{100, 7}, []int{50, 50, 6}, 1, false}, {[]int{100, 7}, []int{50, 50, 7}, 0, false}, {[]int{100, 7}, []int{50, 50, 8}, 0, true}, {[]int{1, 1, 1, 1, 1, 1}, []int{1, 1, 1, 1, 1, 1}, 0, false}, {[]int{1, 1, 1, 1, 1}, []int{1, 1, 1, 1, 1, 1}, 0, true},
		{[]int{1000000}, []int{1000000}, 0, false}, {[]int{1000000}, []int{1}, 999999, false}, {[]int{999999}, []int{1000000}, 0, true}, {[]int{1}, []int{1000000}, 0, true}, {[]int{1}, []int{500000, 500000}, 0, true},
		{[]int{1000000, 1000000, 1000000, 1000000, 1000000, 1000000}, []int{1}, 5999999, false}, {[]int{1000000, 1000000}, []int{1000000}, 1000000, false}, {[]int{4096, 300, 65536}, []int{60000, 9931}, 1, false}, {[]int{4096, 300, 65536}, []int{60000, 9932}, 0, false}, {[]int{4096, 300, 65536}, []int{60000, 9933}, 0, true},
	} {
		var coins []impl.Coin
		for i, amount := range c.coins {
			coins = append(coins, impl.Coin{Tx: 50 - 3*i, Out: i, Amount: amount, Height: 3})
		}
		want := impl.TxFine
		if c.isShort {
			want = impl.TxShort
		}
		x := spenderOf(coins, c.outs...)
		coins = orderedCoins(append(coins, impl.Coin{Tx: 45, Out: 5, Amount: 1000000}))
		if fee, code := impl.TxCheck(coins, 5, x); fee != c.fee || code != want {
			t.Errorf("TxCheck of %v and %v is %d, %d, want %d, %d", c.coins, c.outs, fee, code, c.fee, want)
		}
		codeIs(t, coins, 5, x, want)
	}
	for amount := 1; amount < 60; amount++ {
		for out := 1; out < 60; out++ {
			coins := []impl.Coin{{Tx: 3, Amount: amount}}
			want := outcome{fee: amount - out}
			if out > amount {
				want = outcome{code: impl.TxShort}
			}
			if fee, code := impl.TxCheck(coins, 1, spenderOf(coins, out)); fee != want.fee || code != want.code {
				t.Errorf("TxCheck of %d and %d is %d, %d, want %d, %d", amount, out, fee, code, want.fee, want.code)
			}
		}
	}
}

func TestCoinsThatWouldBeCreatedAreThere(t *testing.T) {
	for n := 1; n <= 6; n++ {
		coins := openCoins(2)
		x := spenderOf(coins, slices.Repeat([]int{1}, n)...)
		id := impl.TxId(x)
		for out := range 6 {
			for _, c := range []impl.Coin{{Tx: id, Out: out, Amount: 1}, {Tx: id, Out: out, Amount: 900, Lock: lock11, Height: 9999, Reward: true}, {Tx: id - 1, Out: out, Amount: 1}, {Tx: id + 1, Out: out, Amount: 1}} {
				want := impl.TxFine
				if c.Tx == id && out < n {
					want = impl.TxThere
				}
				codeIs(t, orderedCoins(append(openCoins(2), c)), 5, x, want)
				codeIs(t, filledTo(append(openCoins(2), c), 80), 5, x, max(want, map[bool]int{true: impl.TxFull}[n > 2 && want == impl.TxFine]))
			}
		}
	}
}

func TestRoomForCoins(t *testing.T) {
	for n := 74; n <= 80; n++ {
		for ins := 1; ins <= 6; ins++ {
			for outs := 1; outs <= 6; outs++ {
				want := impl.TxFine
				if n-ins+outs > 80 {
					want = impl.TxFull
				}
				coins := openCoins(n)
				codeIs(t, coins, 5, spenderOf(coins[n-ins:], slices.Repeat([]int{1}, outs)...), want)
				codeIs(t, coins, 5, spenderOf(coins[:ins], slices.Repeat([]int{1}, outs)...), want)
			}
		}
	}
	codeIs(t, openCoins(81), 5, spenderOf(openCoins(3), 1), impl.TxBad)
	for n := 1; n <= 80; n++ {
		codeIs(t, openCoins(n), 5, spenderOf(openCoins(n)[n-1:], 10), impl.TxFine)
		codeIs(t, openCoins(n), 5, spenderOf(openCoins(n)[:1], 3, 7), map[bool]int{true: impl.TxFull, false: impl.TxFine}[n == 80])
	}
}

func TestSpentCoinsAreInTheOrderOfTheInputs(t *testing.T) {
	coins := closeCoins(8)
	for i := range coins {
		coins[i].Lock = ""
	}
	r := rand.New(rand.NewSource(96))
	for range 200 {
		var chosen []impl.Coin
		for _, i := range r.Perm(8)[:1+r.Intn(6)] {
			chosen = append(chosen, coins[i])
		}
		x := spenderOf(chosen, 5, 6)
		if _, spent, code := impl.TxApply(coins, 9, x); code != impl.TxFine || !slices.Equal(spent, chosen) {
			t.Errorf("TxApply of %s tells as spent %s, %d", told(x), toldCoins(spent), code)
		}
		codeIs(t, coins, 9, x, impl.TxFine)
	}
}

func TestP99WhatWasAppliedCannotBeAppliedAgain(t *testing.T) {
	for _, s := range goodScenes() {
		after, _, code := impl.TxApply(s.coins, s.height, s.x)
		if code != impl.TxFine {
			t.Fatalf("TxApply of %s is %d", told(s.x), code)
		}
		for _, height := range []int{s.height, min(s.height+1, 9999), 9999} {
			codeIs(t, after, height, s.x, impl.TxMissing)
		}
		if len(s.x.Ins) > 1 {
			other := changedTx(s.x, func(x *impl.Tx) { x.Ins = x.Ins[1:] })
			codeIs(t, after, 9999, other, impl.TxMissing)
		}
	}
}

// The notes of these were searched for by a separate script: each transaction spends a coin with its own id.
var ownSpenders = []impl.Tx{
	{Ins: []impl.In{{Tx: 77777, Witness: []string{"w"}}}, Outs: []impl.Out{{Amount: 5}}, Note: "\x00\x00\x01\xb2\x00\x00\xa2\xcf"},
	{Ins: []impl.In{{Tx: 77777, Out: 3, Witness: []string{"w"}}}, Outs: []impl.Out{{Amount: 5}}, Note: "\x00\x00\x0b\x02\x00\x00\x4a\x00"},
	{Ins: []impl.In{{Tx: 88888, Out: 1, Witness: []string{"w"}}}, Outs: []impl.Out{{Amount: 5}, {Amount: 6}}, Note: "\x00\x00\xb2\x39\x00\x00\x40\x59"},
}

func TestP99TransactionsThatSpendCoinsWithTheirOwnId(t *testing.T) {
	for i, x := range ownSpenders {
		in := x.Ins[0]
		if id := impl.TxId(x); id != in.Tx {
			t.Fatalf("the id of %v is %d", x, id)
		}
		coins := []impl.Coin{{Tx: 5, Amount: 9}, {Tx: in.Tx, Out: in.Out, Amount: 11}}
		// Where it spends what it would create, it could be applied again and again.
		if i != 1 {
			codeIs(t, coins, 3, x, impl.TxThere)
			codeIs(t, filledTo(coins, 80), 3, x, impl.TxThere)
			codeIs(t, changedCoins(coins, 1, func(c *impl.Coin) { c.Amount = 4 }), 3, x, impl.TxShort)
			continue
		}
		codeIs(t, coins, 3, x, impl.TxFine)
		after, spent, _ := impl.TxApply(coins, 3, x)
		if want := []impl.Coin{{Tx: 5, Amount: 9}, {Tx: in.Tx, Amount: 5, Height: 3}}; !slices.Equal(after, want) {
			t.Errorf("TxApply(%v, 3, %v) is %v, want %v", coins, x, after, want)
		}
		codeIs(t, after, 3, x, impl.TxMissing)
		undoes(t, after, x, spent, true)
	}
	// What it creates is removed before what it spends is put in its place.
	after := []impl.Coin{{Tx: 5, Amount: 9}, {Tx: 88888, Amount: 5, Height: 3}, {Tx: 88888, Out: 1, Amount: 6, Height: 3}}
	spent := []impl.Coin{{Tx: 88888, Out: 1, Amount: 11}}
	undoes(t, after, ownSpenders[2], spent, true)
}

func TestTwoTransactionsWithTheSameId(t *testing.T) {
	coins := openCoins(2)
	// The notes were searched for by a separate script.
	x := changedTx(spenderOf(coins[:1], 4, 5), func(x *impl.Tx) { x.Note = "winnit" })
	y := changedTx(spenderOf(coins[1:], 4, 5), func(x *impl.Tx) { x.Note = "nukelv" })
	if impl.TxId(x) != 3573172549 || impl.TxId(y) != 3573172549 {
		t.Fatalf("%v and %v have the ids %d and %d", x, y, impl.TxId(x), impl.TxId(y))
	}
	for _, pair := range [][2]impl.Tx{{x, y}, {y, x}} {
		after, spent, code := impl.TxApply(coins, 5, pair[0])
		if code != impl.TxFine {
			t.Fatalf("TxApply of %v is %d", pair[0], code)
		}
		codeIs(t, after, 5, pair[1], impl.TxThere)
		undoes(t, after, pair[0], spent, true)
		undoes(t, after, pair[1], spent, false)
	}
}

// bothOrders tells where two transactions that can be applied to the same coins, none of which both spend, lead to
// other coins the other way round, and returns whether one can be applied behind the other one.
func bothOrders(t *testing.T, coins []impl.Coin, height int, x impl.Tx, y impl.Tx) bool {
	t.Helper()
	behind := func(x impl.Tx, y impl.Tx) ([]impl.Coin, int) {
		after, _, code := impl.TxApply(coins, height, x)
		if code != impl.TxFine {
			t.Fatalf("TxApply(%s, %d, %s) has the code %d", toldCoins(coins), height, told(x), code)
		}
		applyIsRight(t, after, height, y)
		after, _, code = impl.TxApply(after, height, y)
		return after, code
	}
	a, code := behind(x, y)
	b, other := behind(y, x)
	if code != other || !slices.Equal(a, b) {
		t.Errorf("%s and %s lead from %s to %s, %d, and the other way round to %s, %d", told(x), told(y), toldCoins(coins), toldCoins(a), code, toldCoins(b), other)
	}
	return code == impl.TxFine
}

func TestP100TwoTransactionsInEitherOrder(t *testing.T) {
	for _, n := range []int{12, 13, 70, 78, 79, 80} {
		coins := openCoins(n)
		for ins := 1; ins <= 6; ins++ {
			for others := 1; others <= 6; others++ {
				for _, outs := range [][2]int{{1, 1}, {1, 6}, {2, 2}, {3, 1}, {ins, others}, {min(ins+1, 6), min(others+1, 6)}} {
					x := spenderOf(coins[:ins], slices.Repeat([]int{1}, outs[0])...)
					y := spenderOf(coins[n-others:], slices.Repeat([]int{1}, outs[1])...)
					more := n - ins - others + outs[0] + outs[1]
					if n-ins+outs[0] > 80 || n-others+outs[1] > 80 {
						continue
					}
					if got := bothOrders(t, coins, 5, x, y); got != (more <= 80) {
						t.Errorf("with %d coins, %d and %d inputs and %v outputs, one is applied behind the other: %t", n, ins, others, outs, got)
					}
				}
			}
		}
	}
	// Those with the same id create the same coins, whichever of them comes first.
	coins := openCoins(2)
	x := changedTx(spenderOf(coins[:1], 4, 5), func(x *impl.Tx) { x.Note = "winnit" })
	y := changedTx(spenderOf(coins[1:], 4, 5), func(x *impl.Tx) { x.Note = "nukelv" })
	if bothOrders(t, coins, 5, x, y) {
		t.Errorf("%v is applied behind %v", x, y)
	}
	signed := ordinaryScene()
	other := openedTx(impl.Tx{Ins: []impl.In{{Tx: 700}}, Outs: []impl.Out{{Amount: 1000, Lock: lock11}}}, signed.coins, 33)
	if !bothOrders(t, signed.coins, 31, signed.x, other) {
		t.Error("a transaction cannot be applied behind one that spends other coins")
	}
}

func TestTwoTransactionsThatSpendTheSameCoin(t *testing.T) {
	coins := openCoins(12)
	for n := 1; n <= 6; n++ {
		for m := 1; m <= 6; m++ {
			for from := range 12 - m {
				x, y := spenderOf(coins[3:3+n], 1), spenderOf(coins[from:from+m], 2)
				after, _, _ := impl.TxApply(coins, 5, x)
				isShared := from < 3+n && 3 < from+m
				codeIs(t, after, 5, y, map[bool]int{true: impl.TxMissing, false: impl.TxFine}[isShared])
			}
		}
	}
}

func TestTransactionsThatSpendWhatOthersCreate(t *testing.T) {
	coins := openCoins(1)
	var list []impl.Tx
	var spent [][]impl.Coin
	states := [][]impl.Coin{coins}
	for i := range 40 {
		x := changedTx(spenderOf(coins, coins[0].Amount), func(x *impl.Tx) { x.Note = fmt.Sprint(i) })
		codeIs(t, coins, i+1, x, impl.TxFine)
		after, gone, code := impl.TxApply(coins, i+1, x)
		if code != impl.TxFine || len(after) != 1 || after[0] != (impl.Coin{Tx: impl.TxId(x), Amount: 10, Height: i + 1}) {
			t.Fatalf("TxApply(%v, %v) is %v, %d", coins, x, after, code)
		}
		codeIs(t, states[0], i+1, x, map[bool]int{true: impl.TxFine, false: impl.TxMissing}[i == 0])
		list, spent, states, coins = append(list, x), append(spent, gone), append(states, after), after
	}
	for i := len(list) - 1; i >= 0; i-- {
		before, ok := impl.TxUndo(coins, list[i], spent[i])
		if !ok || !slices.Equal(before, states[i]) {
			t.Fatalf("TxUndo(%v, %v, %v) is %v, %t, want %v", coins, list[i], spent[i], before, ok, states[i])
		}
		coins = before
	}
}

func TestP97SumOfTheCoinsBeforeATransaction(t *testing.T) {
	sums := func(coins []impl.Coin, x impl.Tx, spent []impl.Coin) {
		t.Helper()
		undoes(t, coins, x, spent, true)
		before, ok := impl.TxUndo(coins, x, spent)
		more := amountsOf(spent)
		for _, out := range x.Outs {
			more -= out.Amount
		}
		if !ok || !impl.CoinsOk(before) || impl.CoinsSum(before) != impl.CoinsSum(coins)+more {
			t.Errorf("TxUndo(%s, %s, %s) is %s, %t, with the sum %d", toldCoins(coins), told(x), toldCoins(spent), toldCoins(before), ok, impl.CoinsSum(before))
		}
	}
	for _, s := range goodScenes() {
		after, spent, _ := impl.TxApply(s.coins, s.height, s.x)
		sums(after, s.x, spent)
		// What the spent coins have besides their places is not told by the transaction: neither must they be
		// enough, nor does a witness open them, nor are they old.
		for i := range spent {
			for _, c := range coinChanges() {
				if c.isOk {
					sums(after, s.x, changedCoins(spent, i, c.change))
				}
			}
		}
		// Nor does it tell at which height it was applied.
		for _, c := range createdBy(s.x, 0, false) {
			for _, height := range lockHeights {
				sums(changedCoins(after, coinAt(after, c.Tx, c.Out), func(c *impl.Coin) { c.Height = height }), s.x, spent)
			}
		}
	}
	for _, x := range someTxs() {
		if len(x.Ins) == 0 {
			continue
		}
		var spent []impl.Coin
		for i, in := range x.Ins {
			spent = append(spent, impl.Coin{Tx: in.Tx, Out: in.Out, Amount: 1 + i, Lock: lock22, Height: 7})
		}
		sums(createdBy(x, 9, false), x, spent)
		sums(orderedCoins(append(createdBy(x, 9, false), plainCoins(123456, 0, 123456, 5)...)), x, spent)
	}
}

func TestTxUndoOfOtherSpentCoins(t *testing.T) {
	for _, s := range goodScenes() {
		after, spent, _ := impl.TxApply(s.coins, s.height, s.x)
		undoes(t, after, s.x, spent, true)
		undoes(t, after, s.x, nil, false)
		undoes(t, after, s.x, append(slices.Clone(spent), spent[0]), false)
		undoes(t, after, s.x, append(slices.Clone(spent), plainCoin(123456, 1)), false)
		undoes(t, after, s.x, append([]impl.Coin{plainCoin(123456, 1)}, spent...), false)
		for i := range spent {
			undoes(t, after, s.x, withoutCoin(spent, i), false)
			for _, c := range append(coinChanges(), placeChanges()...) {
				undoes(t, after, s.x, changedCoins(spent, i, c.change), c.isOk)
			}
			for _, more := range []int{-1, 1, 5, 256, 1 << 32} {
				undoes(t, after, s.x, changedCoins(spent, i, func(c *impl.Coin) { c.Tx += more }), false)
				undoes(t, after, s.x, changedCoins(spent, i, func(c *impl.Coin) { c.Out += more }), false)
			}
			for k := range i {
				exchanged := slices.Clone(spent)
				exchanged[i], exchanged[k] = exchanged[k], exchanged[i]
				undoes(t, after, s.x, exchanged, false)
				undoes(t, after, s.x, changedCoins(spent, i, func(c *impl.Coin) { *c = spent[k] }), false)
			}
			there := orderedCoins(append(slices.Clone(after), impl.Coin{Tx: spent[i].Tx, Out: spent[i].Out, Amount: 3}))
			undoes(t, there, s.x, spent, false)
		}
		undoes(t, s.coins, s.x, spent, false)
		undoes(t, nil, s.x, spent, false)
	}
}

func TestTxUndoOfOtherCreatedCoins(t *testing.T) {
	for _, s := range goodScenes() {
		after, spent, _ := impl.TxApply(s.coins, s.height, s.x)
		for _, c := range createdBy(s.x, s.height, false) {
			at := coinAt(after, c.Tx, c.Out)
			undoes(t, withoutCoin(after, at), s.x, spent, false)
			undoes(t, changedCoins(after, at, func(c *impl.Coin) { c.Reward = true }), s.x, spent, false)
			for _, more := range []int{-1, 1, 1000, -1000000} {
				undoes(t, changedCoins(after, at, func(c *impl.Coin) { c.Amount += more }), s.x, spent, false)
			}
			for _, lock := range []string{c.Lock + "\x00", "other", lock33 + "\x08", strings.Repeat("l", 300)} {
				undoes(t, changedCoins(after, at, func(c *impl.Coin) { c.Lock = lock }), s.x, spent, false)
			}
			for _, height := range append(lockHeights, noHeights...) {
				undoes(t, changedCoins(after, at, func(c *impl.Coin) { c.Height = height }), s.x, spent, height >= 0 && height <= 9999)
			}
			undoes(t, orderedCoins(changedCoins(after, at, func(c *impl.Coin) { c.Tx = 99999999 })), s.x, spent, false)
		}
	}
}

func TestTxUndoOfOtherTransactions(t *testing.T) {
	for _, s := range goodScenes() {
		after, spent, _ := impl.TxApply(s.coins, s.height, s.x)
		// Witnesses do not change what a transaction spends and creates.
		undoes(t, after, withoutWitnesses(s.x), spent, true)
		undoes(t, after, withWitness(s.x, 0, []string{"other"}), spent, true)
		undoes(t, after, changedTx(s.x, func(x *impl.Tx) { x.Ins = nil }), nil, false)
		undoes(t, after, changedTx(s.x, func(x *impl.Tx) { x.Ins = nil }), spent, false)
		for _, spoil := range []func(x *impl.Tx){
			func(x *impl.Tx) { x.Note += "." }, func(x *impl.Tx) { x.After = (x.After + 1) % 10000 }, func(x *impl.Tx) { x.Outs[0].Amount++ }, func(x *impl.Tx) { x.Outs[0].Lock += "l" }, func(x *impl.Tx) { x.Outs = append(x.Outs, impl.Out{Amount: 1}) },
			func(x *impl.Tx) { x.Ins[0].Out = (x.Ins[0].Out + 1) % 6 }, func(x *impl.Tx) { x.Ins[0].Tx++ }, func(x *impl.Tx) { x.Outs = nil }, func(x *impl.Tx) { x.Note = strings.Repeat("n", 21) }, func(x *impl.Tx) { x.After = -1 }, func(x *impl.Tx) { x.After = 10000 },
			func(x *impl.Tx) { x.Ins[0].Witness = noWitnesses[0] }, func(x *impl.Tx) { x.Ins[0].Witness = []string{strings.Repeat("w", 81)} }, func(x *impl.Tx) { x.Ins[0].Tx = -1 }, func(x *impl.Tx) { x.Ins = append(x.Ins, x.Ins[0]) },
		} {
			undoes(t, after, changedTx(s.x, spoil), spent, false)
		}
	}
	for _, x := range append(bases(), ownSpenders...) {
		for _, change := range []func(x *impl.Tx){func(x *impl.Tx) {}, func(x *impl.Tx) { x.Note = strings.Repeat("n", 21) }, func(x *impl.Tx) { x.After = 10000 }, func(x *impl.Tx) { x.Outs[0].Amount = 1000001 }} {
			other := changedTx(x, change)
			var spent []impl.Coin
			for _, in := range x.Ins {
				spent = append(spent, impl.Coin{Tx: in.Tx, Out: in.Out, Amount: 4})
			}
			undoes(t, createdBy(other, 3, false), other, spent, txIsOk(other) && len(x.Ins) > 0)
			undoes(t, createdBy(other, 3, true), other, spent, false)
		}
	}
}

func TestTxUndoOfCoinsThatAreNotValid(t *testing.T) {
	s := ordinaryScene()
	after, spent, _ := impl.TxApply(s.coins, s.height, s.x)
	for i := range after {
		for _, c := range append(coinChanges(), placeChanges()...) {
			other := changedCoins(after, i, c.change)
			undoIsRight(t, other, s.x, spent)
			if !c.isOk {
				undoes(t, other, s.x, spent, false)
			}
		}
		for k := range i {
			exchanged := slices.Clone(after)
			exchanged[i], exchanged[k] = exchanged[k], exchanged[i]
			undoes(t, exchanged, s.x, spent, false)
		}
		undoes(t, append(slices.Clone(after), after[i]), s.x, spent, false)
	}
	undoes(t, filledTo(after, 80), s.x, spent, true)
	undoes(t, filledTo(after, 81), s.x, spent, false)
}

func TestTxUndoWhereThereIsNoRoom(t *testing.T) {
	for ins := 1; ins <= 6; ins++ {
		for outs := 1; outs <= 6; outs++ {
			spent := openCoins(ins)
			x := spenderOf(spent, slices.Repeat([]int{1}, outs)...)
			for n := max(outs, 73); n <= 82; n++ {
				undoes(t, filledTo(createdBy(x, 3, false), n), x, spent, n <= 80 && n-outs+ins <= 80)
			}
		}
	}
}

func TestRewardsThatWereWrittenByHand(t *testing.T) {
	other := impl.Coin{Tx: 1000000000, Out: 3, Amount: 8, Lock: "l", Height: 4}
	for _, c := range []struct {
		x    impl.Tx
		want []impl.Coin
	}{
		{impl.Tx{Outs: []impl.Out{{Amount: 4096, Lock: lock11}}, After: 1, Note: "r1"}, []impl.Coin{{Tx: 582195871, Amount: 4096, Lock: lock11, Height: 1, Reward: true}, other}},
		{rewardTx(), []impl.Coin{other, {Tx: 4217905509, Amount: 4096, Lock: "k", Height: 1, Reward: true}}},
		{
			impl.Tx{Outs: []impl.Out{{Amount: 1}, {Amount: 2, Lock: "a"}, {Amount: 3, Lock: lock22}}, After: 9999},
			[]impl.Coin{other, {Tx: 2094851640, Amount: 1, Height: 9999, Reward: true}, {Tx: 2094851640, Out: 1, Amount: 2, Lock: "a", Height: 9999, Reward: true}, {Tx: 2094851640, Out: 2, Amount: 3, Lock: lock22, Height: 9999, Reward: true}},
		},
	} {
		if got, ok := impl.TxReward([]impl.Coin{other}, c.x.After, c.x); !ok || !slices.Equal(got, c.want) {
			t.Errorf("TxReward(%v, %d, %v) is %v, %t, want %v", other, c.x.After, c.x, got, ok, c.want)
		}
		rewards(t, []impl.Coin{other}, c.x.After, c.x, true)
		rewards(t, c.want, c.x.After, c.x, false)
	}
}

func TestP98SumOfTheCoinsAfterAReward(t *testing.T) {
	for _, x := range someTxs() {
		x = changedTx(x, func(x *impl.Tx) { x.Ins = nil })
		if x.After == 0 {
			rewards(t, nil, 0, x, false)
			x.After = 5
		}
		for _, list := range someCoins() {
			if len(list)%7 != 1 && len(list) < 74 {
				continue
			}
			rewards(t, list, x.After, x, len(list)+len(x.Outs) <= 80)
			got, ok := impl.TxReward(list, x.After, x)
			if more := amountsOf(createdBy(x, 0, true)); ok && (!impl.CoinsOk(got) || impl.CoinsSum(got) != impl.CoinsSum(list)+more) {
				t.Errorf("TxReward(%s, %d, %s) is %s, with the sum %d", toldCoins(list), x.After, told(x), toldCoins(got), impl.CoinsSum(got))
			}
		}
	}
}

func TestRewardsAndHeights(t *testing.T) {
	for _, height := range append(append(timesFor(0), timesFor(9999)...), append(noHeights, lockHeights...)...) {
		for _, after := range []int{0, 1, height - 2, height - 1, height, height + 1, height + 2, 9999, 10000} {
			x := impl.Tx{Outs: []impl.Out{{Amount: 50}}, After: after}
			rewards(t, openCoins(3), height, x, after == height && height >= 1 && height <= 9999)
			rewards(t, nil, height, x, after == height && height >= 1 && height <= 9999)
		}
	}
	for height := -2; height < 10010; height += 3 {
		rewards(t, nil, height, impl.Tx{Outs: []impl.Out{{Amount: 50}}, After: height}, height >= 1 && height <= 9999)
	}
}

func TestTransactionsThatAreNoRewards(t *testing.T) {
	for _, x := range someTxs() {
		if len(x.Ins) > 0 {
			rewards(t, openCoins(3), x.After, x, false)
		}
	}
	for _, s := range goodScenes() {
		x := changedTx(s.x, func(x *impl.Tx) { x.After = s.height })
		rewards(t, s.coins, s.height, x, false)
		x.Ins = nil
		rewards(t, s.coins, s.height, x, len(s.coins)+len(x.Outs) <= 80)
	}
	for _, spoil := range []func(x *impl.Tx){
		func(x *impl.Tx) { x.Outs = nil }, func(x *impl.Tx) { x.Outs = slices.Repeat(x.Outs, 7) }, func(x *impl.Tx) { x.Outs[0].Amount = 0 }, func(x *impl.Tx) { x.Outs[0].Amount = -1 }, func(x *impl.Tx) { x.Outs[0].Amount = 1000001 },
		func(x *impl.Tx) { x.Outs = append(x.Outs, impl.Out{Amount: 1000000}) }, func(x *impl.Tx) { x.Outs[0].Lock = strings.Repeat("l", 301) }, func(x *impl.Tx) { x.Note = strings.Repeat("n", 21) }, func(x *impl.Tx) { x.Ins = []impl.In{{}} },
	} {
		rewards(t, openCoins(3), 1, changedTx(rewardTx(), spoil), false)
		rewards(t, nil, 1, changedTx(rewardTx(), spoil), false)
	}
}

func TestRewardsWhoseCoinsAreThere(t *testing.T) {
	for n := 1; n <= 6; n++ {
		x := impl.Tx{Outs: slices.Repeat([]impl.Out{{Amount: 7, Lock: lock11}}, n), After: 4}
		id := impl.TxId(x)
		for out := range 6 {
			for _, c := range []impl.Coin{{Tx: id, Out: out, Amount: 1}, {Tx: id, Out: out, Amount: 7, Lock: lock11, Height: 4, Reward: true}, {Tx: id - 1, Out: out, Amount: 1}, {Tx: id + 1, Out: out, Amount: 1}} {
				rewards(t, orderedCoins(append(openCoins(2), c)), 4, x, c.Tx != id || out >= n)
			}
		}
	}
}

func TestRewardsAndRoom(t *testing.T) {
	for n := 70; n <= 82; n++ {
		for outs := 1; outs <= 6; outs++ {
			x := impl.Tx{Outs: slices.Repeat([]impl.Out{{Amount: 7, Lock: lock11}}, outs), After: 4}
			rewards(t, openCoins(n), 4, x, n+outs <= 80)
			rewards(t, rowOfCoins(n), 4, x, n+outs <= 80)
		}
	}
}

// randomScene is a scene in which nothing, one thing or two things are wrong.
func randomScene(r *rand.Rand) scene {
	s := scene{coins: randomCoins(r, []int{4, 12, 80}[r.Intn(3)]), height: 1 + r.Intn([]int{5, 300, 9999}[r.Intn(3)])}
	secrets := make([]int, 6)
	for _, i := range r.Perm(len(s.coins))[:min(len(s.coins), 1+r.Intn(6))] {
		c := &s.coins[i]
		c.Lock = []string{"", lock11, lock22}[r.Intn(3)]
		if r.Intn(6) > 0 {
			c.Height = r.Intn(s.height)
			c.Reward = c.Reward && s.height-c.Height >= 2
		}
		secrets[len(s.x.Ins)] = map[string]int{lock11: 11, lock22: 22}[c.Lock]
		s.x.Ins = append(s.x.Ins, impl.In{Tx: c.Tx, Out: c.Out})
	}
	for range 1 + r.Intn(6) {
		s.x.Outs = append(s.x.Outs, impl.Out{Amount: 1 + r.Intn([]int{2, 20, 300, 100000}[r.Intn(4)]), Lock: []string{"", lock11, lockAbc}[r.Intn(3)]})
	}
	s.x.After = r.Intn(s.height + 1)
	s.x.Note = fmt.Sprint(r.Intn(1000))
	s.x = openedTx(s.x, s.coins, secrets...)
	for range r.Intn(3) {
		breakScene(r, &s)
	}
	return s
}

// breakScene puts something into a scene by which the transaction cannot be applied in most cases.
func breakScene(r *rand.Rand, s *scene) {
	switch r.Intn(9) {
	case 0:
		s.height = []int{0, -1, 1, 9999, 10000}[r.Intn(5)]
	case 1:
		s.height = max(1, s.x.After-r.Intn(2))
	case 2:
		if len(s.coins) > 0 {
			s.coins = withoutCoin(s.coins, r.Intn(len(s.coins)))
		}
	case 3:
		if len(s.coins) > 0 {
			i := r.Intn(len(s.coins))
			s.coins[i].Reward, s.coins[i].Height = true, max(0, min(9999, s.height-r.Intn(4)))
		}
	case 4:
		if len(s.x.Ins) > 0 {
			s.x = withWitness(s.x, r.Intn(len(s.x.Ins)), []string{coinSig})
		}
	case 5:
		if len(s.x.Ins) > 0 && impl.TxOk(s.x) {
			s.coins = orderedCoins(append(slices.Clone(s.coins), impl.Coin{Tx: impl.TxId(s.x), Out: r.Intn(6), Amount: 5}))
		}
	case 6:
		s.coins = filledTo(s.coins, 79+r.Intn(2))
	case 7:
		breakTx(r, &s.x)
	default:
		if len(s.coins) > 1 {
			breakCoins(r, s.coins)
		}
	}
}

func TestRandomTransactions(t *testing.T) {
	r := rand.New(rand.NewSource(95))
	met := map[int]int{}
	undone, rewarded := 0, 0
	for range 6000 {
		s := randomScene(r)
		o := applyIsRight(t, s.coins, s.height, s.x)
		met[o.code]++
		after, spent := o.after, o.spent
		if o.code != impl.TxFine {
			after = s.coins
			for _, in := range s.x.Ins {
				spent = append(spent, impl.Coin{Tx: in.Tx, Out: in.Out, Amount: 3})
			}
		} else if r.Intn(3) == 0 && len(after) > 1 {
			breakCoins(r, after)
		} else if r.Intn(3) == 0 && len(spent) > 1 {
			breakCoins(r, spent)
		}
		if undoIsRight(t, after, s.x, spent) {
			undone++
		}
		if r.Intn(2) == 0 {
			s.x.Ins, s.x.After = nil, max(0, s.height-r.Intn(2))
		}
		if rewardIsRight(t, s.coins, s.height, s.x) {
			rewarded++
		}
	}
	eachCode(t, met, impl.TxFine, impl.TxBad, impl.TxEarly, impl.TxMissing, impl.TxYoung, impl.TxLocked, impl.TxShort, impl.TxThere, impl.TxFull)
	if undone < 300 || rewarded < 300 {
		t.Errorf("%d transactions were undone, and %d were rewards", undone, rewarded)
	}
}

func TestP100RandomPairs(t *testing.T) {
	r := rand.New(rand.NewSource(100))
	both := map[bool]int{}
	for range 3000 {
		coins := openCoins([]int{12, 77, 78, 79, 80}[r.Intn(5)])
		of := func() impl.Tx {
			var chosen []impl.Coin
			for _, i := range r.Perm(12)[:1+r.Intn(4)] {
				chosen = append(chosen, coins[i])
			}
			return spenderOf(chosen, slices.Repeat([]int{1}, 1+r.Intn(5))...)
		}
		x, y := of(), of()
		isShared := slices.ContainsFunc(x.Ins, func(a impl.In) bool {
			return slices.ContainsFunc(y.Ins, func(b impl.In) bool { return a.Tx == b.Tx && a.Out == b.Out })
		})
		canX, canY := outcomeOf(coins, 5, x).code == impl.TxFine, outcomeOf(coins, 5, y).code == impl.TxFine
		if canX && canY && !isShared {
			both[bothOrders(t, coins, 5, x, y)]++
		}
	}
	if both[true] < 100 || both[false] < 50 {
		t.Errorf("of two transactions one is applied behind the other one: %v", both)
	}
}

func TestSupplyIsKeptOverManyTransactions(t *testing.T) {
	r := rand.New(rand.NewSource(98))
	var coins []impl.Coin
	sum := 0
	for height := 1; height <= 300; height++ {
		for range 3 {
			var chosen []impl.Coin
			for _, i := range r.Perm(len(coins))[:min(len(coins), 1+r.Intn(6))] {
				chosen = append(chosen, coins[i])
			}
			x := changedTx(spenderOf(chosen, 1+r.Intn(300), 1+r.Intn(300)), func(x *impl.Tx) { x.Outs[1].Lock = "" })
			o := applyIsRight(t, coins, height, x)
			if o.code == impl.TxFine {
				before, ok := impl.TxUndo(o.after, x, o.spent)
				if !ok || !slices.Equal(before, coins) {
					t.Fatalf("TxUndo(%s, %s) is %s, %t", toldCoins(o.after), told(x), toldCoins(before), ok)
				}
				coins, sum = o.after, sum-o.fee
			}
		}
		reward := impl.Tx{Outs: []impl.Out{{Amount: 200}, {Amount: 100}}, After: height}
		if rewardIsRight(t, coins, height, reward) {
			coins, _ = impl.TxReward(coins, height, reward)
			sum += 300
		}
		if impl.CoinsSum(coins) != sum {
			t.Fatalf("at the height %d the coins are %s, whose sum is not %d", height, toldCoins(coins), sum)
		}
	}
}

func TestValidityLeavesArgumentsAsTheyAre(t *testing.T) {
	behind := plainCoins(impl.NumTop, 5, 0, 0)
	scenes := goodScenes()
	for n, f := range allFaults() {
		if n%5 == 0 {
			scenes = append(scenes, f.scene(spoilers()[n%len(spoilers())]))
		}
	}
	for _, s := range scenes {
		coins, x := behindIt(s.coins, behind...), roomyTx(s.x)
		want := wholeOf(x)
		_, spent, _ := impl.TxApply(s.coins, s.height, s.x)
		given := behindIt(spent, behind...)
		reward := roomyTx(changedTx(s.x, func(x *impl.Tx) { x.Ins, x.After = nil, s.height }))
		wantReward := wholeOf(reward)
		impl.TxCheck(coins, s.height, x)
		after, gone, _ := impl.TxApply(coins, s.height, x)
		later, _ := impl.TxReward(coins, s.height, reward)
		_, _ = impl.TxUndo(coins, x, given)
		whole := behindIt(after, behind...)
		before, _ := impl.TxUndo(whole, x, given)
		if !slices.Equal(whole, after) || !slices.Equal(whole[:len(after)+2][len(after):], behind) {
			t.Errorf("TxUndo changes the coins %s to %s", toldCoins(after), toldCoins(whole))
		}
		for _, list := range [][]impl.Coin{after, gone, later, before} {
			_ = append(list, plainCoin(99, 0))
			spoilCoins(list)
		}
		for _, pair := range [][2][]impl.Coin{{coins, s.coins}, {given, spent}} {
			if n := len(pair[1]); !slices.Equal(pair[0], pair[1]) || !slices.Equal(pair[0][:n+2][n:], behind) {
				t.Errorf("%s became %s", toldCoins(pair[1]), toldCoins(pair[0][:n+2]))
			}
		}
		if got := wholeOf(x); got != want {
			t.Errorf("%.300s became %.300s", want, got)
		}
		if got := wholeOf(reward); got != wantReward {
			t.Errorf("%.300s became %.300s", wantReward, got)
		}
	}
}

func TestCoinsOfTransactionsAreOnesOwn(t *testing.T) {
	for _, s := range goodScenes() {
		sharesNoMemory(t, "TxApply", s.coins, func(list []impl.Coin) []impl.Coin {
			after, _, _ := impl.TxApply(list, s.height, s.x)
			return after
		})
		sharesNoMemory(t, "what is spent by TxApply", s.coins, func(list []impl.Coin) []impl.Coin {
			_, spent, _ := impl.TxApply(list, s.height, s.x)
			return spent
		})
		after, spent, _ := impl.TxApply(s.coins, s.height, s.x)
		sharesNoMemory(t, "TxUndo", after, func(list []impl.Coin) []impl.Coin {
			before, _ := impl.TxUndo(list, s.x, spent)
			return before
		})
		sharesNoMemory(t, "TxUndo with what was spent", spent, func(list []impl.Coin) []impl.Coin {
			before, _ := impl.TxUndo(after, s.x, list)
			return before
		})
		reward := changedTx(s.x, func(x *impl.Tx) { x.Ins, x.After = nil, s.height })
		sharesNoMemory(t, "TxReward", s.coins, func(list []impl.Coin) []impl.Coin {
			later, _ := impl.TxReward(list, s.height, reward)
			return later
		})
		want := slices.Clone(after)
		wantSpent := slices.Clone(spent)
		_ = append(spent, slices.Repeat(plainCoins(99, 0), 90)...)
		if !slices.Equal(after, want) {
			t.Errorf("what grows behind the spent coins changes %s", toldCoins(after))
		}
		spoilCoins(after)
		if !slices.Equal(spent, wantSpent) {
			t.Errorf("a change of the coins changes the spent ones, %s", toldCoins(spent))
		}
		after, spent, _ = impl.TxApply(s.coins, s.height, s.x)
		spoilCoins(spent)
		if !slices.Equal(after, want) {
			t.Errorf("a change of the spent coins changes the others, %s", toldCoins(after))
		}
	}
}

func TestTransactionsAreAppliedTheSameAtEachCall(t *testing.T) {
	for _, s := range goodScenes() {
		want := applyIsRight(t, s.coins, s.height, s.x)
		for range 30 {
			fee, code := impl.TxCheck(s.coins, s.height, s.x)
			after, spent, same := impl.TxApply(s.coins, s.height, s.x)
			before, ok := impl.TxUndo(after, s.x, spent)
			if fee != want.fee || code != impl.TxFine || same != code || !slices.Equal(after, want.after) || !slices.Equal(spent, want.spent) || !ok || !slices.Equal(before, s.coins) {
				t.Fatalf("%s is applied to %s in another way", told(s.x), toldCoins(s.coins))
			}
		}
	}
}
