package tests

import (
	"math"
	"math/rand"
	"slices"
	"strings"
	"testing"

	"loop.example/workchain/impl"
)

// coinSig is the signature of 11 for the message coin as an item, and key11 the key as one; both were worked out by a separate script.
const (
	coinSig = "\x18\x9f\x19\x06\x00\x4b\x55\x6b"
	key11   = "\x00\x40\x00\x00"
	key22   = "\x00\x08\xa0\x00"
)

// atCoin is what most scripts are run with.
var atCoin = impl.Env{Text: "coin", Height: 10, Age: 5}

// someEnvs are heights and ages below, at and above what scripts demand.
var someEnvs = []impl.Env{
	{}, atCoin, {Text: "coin", Height: 9999, Age: 99}, {Text: "coin", Height: 9998, Age: 98}, {Text: "coin", Height: -1, Age: -1}, {Text: "coin", Height: 0, Age: 99}, {Text: "coin", Height: 9999, Age: 0},
	{Text: "Coin", Height: 10, Age: 5}, {Text: "coin", Height: math.MinInt, Age: math.MinInt}, {Text: "coin", Height: math.MaxInt, Age: math.MaxInt}, {Text: "coin", Height: 5, Age: 10}, {Text: "coin", Height: math.MaxInt, Age: math.MinInt},
}

// keyItem is the key of a secret as an item.
func keyItem(secret int) string {
	return fourBytes(powerOf(impl.GroupBase, secret))
}

// sigItem is the signature of a message by a secret as an item.
func sigItem(secret int, text string) string {
	sig := signedWith(secret, nonceOf(secret, text), text).Sig
	return fourBytes(sig.R) + fourBytes(sig.S)
}

// truth is the item of true or of false.
func truth(is bool) string {
	if is {
		return "\x01"
	}
	return ""
}

// itemsFit tells whether items have the form of a signature and of a key, and the signature is valid.
func itemsFit(sig string, key string, text string) bool {
	if len(sig) != 8 || len(key) != 4 {
		return false
	}
	number := func(s string) int { return int(s[0])<<24 + int(s[1])<<16 + int(s[2])<<8 + int(s[3]) }
	return impl.Verify(number(key), text, impl.Sig{R: number(sig[:4]), S: number(sig[4:])})
}

// canMatch tells whether there is any way to give each signature a key of its own in the same order.
func canMatch(sigs []string, keys []string, fit func(sig string, key string) bool) bool {
	if len(sigs) == 0 {
		return true
	}
	for i, key := range keys {
		if fit(sigs[0], key) && canMatch(sigs[1:], keys[i+1:], fit) {
			return true
		}
	}
	return false
}

// needs is how many items an operation needs.
func needs(op impl.Op) int {
	switch op.Code {
	case 1, 2, 5, 6, 9, 10:
		return 1
	case 3, 4, 11:
		return 2
	case 12:
		return op.A + op.B
	}
	return 0
}

// behindSkipped is where the branch ends that begins behind an index: at the end of its condition, or at its else.
func behindSkipped(ops []impl.Op, at int) int {
	depth := 0
	for at++; ; at++ {
		switch {
		case depth == 0 && (ops[at].Code == 7 || ops[at].Code == 8):
			return at
		case ops[at].Code == 6:
			depth++
		case ops[at].Code == 8:
			depth--
		}
	}
}

// ran is the run of a script, written down a second time: conditions are jumps.
func ran(ops []impl.Op, given []string, env impl.Env) ([]string, int) {
	if !scriptIsOk(ops) || len(given) > 24 || slices.ContainsFunc(given, func(s string) bool { return len(s) > 80 }) {
		return nil, 1
	}
	stack := slices.Clone(given)
	for at := 0; at < len(ops); at++ {
		op := ops[at]
		below := len(stack) - needs(op)
		switch {
		case below < 0:
			return nil, 2
		case op.Code <= 1 && len(stack) == 24:
			return nil, 5
		case op.Code == 9 && stack[below] == "":
			return nil, 3
		case op.Code == 13 && env.Height < op.A || op.Code == 14 && env.Age < op.A:
			return nil, 4
		case op.Code == 7 || op.Code == 6 && stack[below] == "":
			at = behindSkipped(ops, at)
		}
		stack = append(stack[:below:below], pushedBy(op, stack[below:], env.Text)...)
	}
	return stack, 0
}

// pushedBy is what an operation leaves in the place of the items that it needs.
func pushedBy(op impl.Op, items []string, text string) []string {
	switch op.Code {
	case 0:
		return []string{op.Text}
	case 1:
		return []string{items[0], items[0]}
	case 3:
		return []string{items[1], items[0]}
	case 4:
		return []string{truth(items[0] == items[1])}
	case 5:
		return []string{truth(items[0] == "")}
	case 10:
		return []string{fourBytes(digestOf(items[0]))}
	case 11:
		return []string{truth(itemsFit(items[0], items[1], text))}
	case 12:
		fit := func(sig string, key string) bool { return itemsFit(sig, key, text) }
		return []string{truth(canMatch(items[:op.A], items[op.A:], fit))}
	}
	return nil
}

// runIsRight tells where a run is not as the document tells, and how it ended.
func runIsRight(t *testing.T, ops []impl.Op, stack []string, env impl.Env) ([]string, int) {
	t.Helper()
	got, code := impl.RunScript(ops, stack, env)
	want, wantCode := ran(ops, stack, env)
	if code != wantCode || !slices.Equal(got, want) {
		t.Fatalf("RunScript(%#v, %q, %v) is %q, %d, want %q, %d", ops, stack, env, got, code, want, wantCode)
	}
	return got, code
}

// leaves tells where the run of a text does not end with RunFine and a stack.
func leaves(t *testing.T, text string, stack []string, env impl.Env, want ...string) {
	t.Helper()
	got, code := impl.RunScript(mustParse(t, text), stack, env)
	if code != impl.RunFine || !slices.Equal(got, want) {
		t.Errorf("RunScript(%q, %q, %v) is %q, %d, want %q", text, stack, env, got, code, want)
	}
}

// endsWith tells where the run of operations does not end with a code and no items.
func endsWith(t *testing.T, ops []impl.Op, stack []string, env impl.Env, want int) {
	t.Helper()
	if got, code := impl.RunScript(ops, stack, env); code != want || len(got) != 0 {
		t.Errorf("RunScript(%#v, %q, %v) is %q, %d, want the code %d", ops, stack, env, got, code, want)
	}
}

// fails tells where the run of a text does not end with a code and no items.
func fails(t *testing.T, text string, stack []string, env impl.Env, want int) {
	t.Helper()
	endsWith(t, mustParse(t, text), stack, env, want)
}

// trueItems returns so many items, all true and different.
func trueItems(n int) []string {
	list := make([]string, n)
	for i := range list {
		list[i] = strings.Repeat("\x00", i+1)
	}
	return list
}

// falseItems returns so many items that are false.
func falseItems(n int) []string {
	return make([]string, n)
}

func TestMachineConstants(t *testing.T) {
	if impl.StackMax != 24 {
		t.Errorf("StackMax is %d", impl.StackMax)
	}
	for want, code := range []int{impl.RunFine, impl.RunBad, impl.RunEmpty, impl.RunFalse, impl.RunEarly, impl.RunFull} {
		if code != want {
			t.Errorf("the code of a run is %d, want %d", code, want)
		}
	}
}

// fixedRuns were written by hand.
var fixedRuns = []struct {
	text  string
	stack []string
	want  []string
	code  int
}{
	{"", nil, nil, 0},
	{"", []string{"a", "", "b"}, []string{"a", "", "b"}, 0},
	{"x", nil, []string{""}, 0},
	{"x6162 x63", []string{"z"}, []string{"z", "ab", "c"}, 0},
	{"dup", []string{"a", "b"}, []string{"a", "b", "b"}, 0},
	{"drop", []string{"a", "b"}, []string{"a"}, 0},
	{"swap", []string{"a", "b", "c"}, []string{"a", "c", "b"}, 0},
	{"swap drop", []string{"a", "b"}, []string{"b"}, 0},
	{"equal", []string{"a", "b", "b"}, []string{"a", "\x01"}, 0},
	{"equal", []string{"b", "a", "b"}, []string{"b", ""}, 0},
	{"not", []string{"a", ""}, []string{"a", "\x01"}, 0},
	{"not not", []string{"abc"}, []string{"\x01"}, 0},
	{"digest", []string{"a", "abc"}, []string{"a", "\x3a\x6b\x53\x9e"}, 0},
	{"digest x3a6b539e equal", []string{"abc"}, []string{"\x01"}, 0},
	{"verify", []string{"a", "b"}, []string{"a"}, 0},
	{"verify", []string{"a", ""}, nil, 3},
	{"x00400000 sign", []string{coinSig}, []string{"\x01"}, 0},
	{"x0008a000 sign", []string{coinSig}, []string{""}, 0},
	{"x00400000 sign", nil, nil, 2},
	{"sign", []string{"a", key11, coinSig}, []string{"a", ""}, 0},
	{"x0008a000 x00400000 many:1:2", []string{coinSig}, []string{"\x01"}, 0},
	{"x00400000 x0008a000 many:1:2", []string{"a", coinSig}, []string{"a", "\x01"}, 0},
	{"x0008a000 x0008a000 many:1:2", []string{coinSig}, []string{""}, 0},
	{"x00400000 x0008a000 many:1:2", nil, nil, 2},
	{"after:10 older:5", []string{"a"}, []string{"a"}, 0},
	{"after:11", []string{"a"}, nil, 4},
	{"older:6", []string{"a"}, nil, 4},
	{"older:10", nil, nil, 4},
	{"dup equal if xaa else xbb end", []string{"z"}, []string{"\xaa"}, 0},
	{"dup equal not if xaa else xbb end", []string{"z"}, []string{"\xbb"}, 0},
	{"if xaa else xbb end xcc", []string{""}, []string{"\xbb", "\xcc"}, 0},
	{"if xaa end", []string{"z", ""}, []string{"z"}, 0},
	{"if if xaa else xbb end else if xcc else xdd end end", []string{"y", "y"}, []string{"\xaa"}, 0},
	{"if if xaa else xbb end else if xcc else xdd end end", []string{"", "y"}, []string{"\xbb"}, 0},
	{"if if xaa else xbb end else if xcc else xdd end end", []string{"y", ""}, []string{"\xcc"}, 0},
	{"if if xaa else xbb end else if xcc else xdd end end", []string{"", ""}, []string{"\xdd"}, 0},
	{"if if xaa else xbb end else if xcc else xdd end end", []string{"y"}, nil, 2},
	{"if if xaa else xbb end else xcc end", []string{""}, []string{"\xcc"}, 0},
	{"if xaa else if xbb else xcc end xdd end", []string{"y"}, []string{"\xaa"}, 0},
	{"drop drop", []string{"a"}, nil, 2},
	{"after:11 drop", nil, nil, 4},
	{"drop after:11", nil, nil, 2},
	{"x verify after:11 drop", nil, nil, 3},
}

func TestRunsOfTheTable(t *testing.T) {
	for _, c := range fixedRuns {
		ops := mustParse(t, c.text)
		got, code := impl.RunScript(ops, c.stack, atCoin)
		if code != c.code || !slices.Equal(got, c.want) {
			t.Errorf("RunScript(%q, %q) is %q, %d, want %q, %d", c.text, c.stack, got, code, c.want, c.code)
		}
		if code := runCode(t, ops, c.stack, atCoin); code != c.code {
			t.Errorf("the second writing ends %q on %q with %d, want %d", c.text, c.stack, code, c.code)
		}
	}
}

// runCode is the code of a run that is as the document tells.
func runCode(t *testing.T, ops []impl.Op, stack []string, env impl.Env) int {
	t.Helper()
	_, code := runIsRight(t, ops, stack, env)
	return code
}

// timedLock is a script for whoever has the preimage abc and the secret 11, and from a height on for whoever has the secret 22.
const timedLock = "if digest x3a6b539e equal verify x00400000 sign else after:300 x0008a000 sign end"

func TestRunsOfATimedLock(t *testing.T) {
	early, late := impl.Env{Text: "coin", Height: 299}, impl.Env{Text: "coin", Height: 300}
	payer := sigItem(22, "coin")
	for _, env := range []impl.Env{early, late} {
		leaves(t, timedLock, []string{coinSig, "abc", "\x01"}, env, "\x01")
		leaves(t, timedLock, []string{payer, "abc", "\x01"}, env, "")
		fails(t, timedLock, []string{coinSig, "abd", "\x01"}, env, impl.RunFalse)
		fails(t, timedLock, []string{"abc", "\x01"}, env, impl.RunEmpty)
		fails(t, timedLock, []string{"\x01"}, env, impl.RunEmpty)
		fails(t, timedLock, nil, env, impl.RunEmpty)
	}
	leaves(t, timedLock, []string{payer, ""}, late, "\x01")
	leaves(t, timedLock, []string{coinSig, ""}, late, "")
	fails(t, timedLock, []string{payer, ""}, early, impl.RunEarly)
	fails(t, timedLock, []string{""}, early, impl.RunEarly)
	fails(t, timedLock, []string{""}, late, impl.RunEmpty)
}

// needing are texts of one operation or one condition, how many items it needs, and how many more there are behind it.
var needing = []struct {
	text string
	need int
	more int
}{
	{"x", 0, 1}, {"x01", 0, 1}, {"dup", 1, 1}, {"drop", 1, -1}, {"swap", 2, 0}, {"equal", 2, -1}, {"not", 1, 0}, {"if end", 1, -1}, {"if else end", 1, -1}, {"verify", 1, -1}, {"digest", 1, 0}, {"sign", 2, -1},
	{"many:1:1", 2, -1}, {"many:1:2", 3, -2}, {"many:2:2", 4, -3}, {"many:1:3", 4, -3}, {"many:2:3", 5, -4}, {"many:3:3", 6, -5}, {"many:1:4", 5, -4}, {"many:2:4", 6, -5}, {"many:3:4", 7, -6}, {"many:4:4", 8, -7},
	{"many:1:5", 6, -5}, {"many:2:5", 7, -6}, {"many:3:5", 8, -7}, {"many:4:5", 9, -8}, {"many:5:5", 10, -9}, {"after:0", 0, 0}, {"older:1", 0, 0},
}

func TestRunsOfEachOperationOnEachNumberOfItems(t *testing.T) {
	for _, c := range needing {
		ops := mustParse(t, c.text)
		for n := range 25 {
			stack := trueItems(n)
			got, code := runIsRight(t, ops, stack, atCoin)
			switch {
			case n < c.need:
				endsWith(t, ops, stack, atCoin, impl.RunEmpty)
			case n+c.more > impl.StackMax:
				endsWith(t, ops, stack, atCoin, impl.RunFull)
			case code != impl.RunFine || len(got) != n+c.more:
				t.Errorf("RunScript(%q) on %d items ends with %d and %d items", c.text, n, code, len(got))
			case !slices.Equal(got[:n-c.need], stack[:n-c.need]):
				t.Errorf("RunScript(%q) on %q changes what is below: %q", c.text, stack, got)
			}
		}
	}
}

func TestRunEmptyComesBeforeAllElse(t *testing.T) {
	for _, c := range needing {
		ops := mustParse(t, c.text)
		for n := range c.need {
			for _, env := range someEnvs {
				for _, stack := range [][]string{falseItems(n), trueItems(n), slices.Repeat([]string{coinSig}, n), slices.Repeat([]string{key11}, n), slices.Repeat([]string{strings.Repeat("a", 80)}, n)} {
					endsWith(t, ops, stack, env, impl.RunEmpty)
				}
			}
		}
	}
	// What an operation lacks is not told by one that stands behind it.
	for _, behind := range []string{"drop", "x verify", "after:9999", "older:99"} {
		for _, c := range needing[2:13] {
			fails(t, c.text+" "+behind, falseItems(c.need-1), atCoin, impl.RunEmpty)
		}
	}
}

func TestRunFull(t *testing.T) {
	for _, items := range [][]string{trueItems(24), falseItems(24)} {
		for _, text := range []string{"x", "x01", "x" + strings.Repeat("ff", 80), "dup"} {
			fails(t, text, items, atCoin, impl.RunFull)
			fails(t, text+" drop", items, atCoin, impl.RunFull)
			fails(t, "after:0 "+text, items, atCoin, impl.RunFull)
			fails(t, "swap equal "+text+" "+text, items, atCoin, impl.RunFull)
			fails(t, text+" "+text, items[:23], atCoin, impl.RunFull)
			fails(t, text+" after:9999", items, atCoin, impl.RunFull)
			if _, code := impl.RunScript(mustParse(t, text), items[:23], atCoin); code != impl.RunFine {
				t.Errorf("RunScript(%q) on 23 items ends with %d", text, code)
			}
			if got, code := impl.RunScript(mustParse(t, "drop "+text), items, atCoin); code != impl.RunFine || len(got) != 24 {
				t.Errorf("RunScript(drop %q) on 24 items ends with %d and %d items", text, code, len(got))
			}
		}
	}
}

func TestAsManyPushesAsThereIsRoom(t *testing.T) {
	for n := range 41 {
		pushes, copies := strings.TrimSpace(strings.Repeat("x61 ", n)), strings.TrimSpace(strings.Repeat("dup ", n))
		if n <= 24 {
			leaves(t, pushes, nil, atCoin, slices.Repeat([]string{"a"}, n)...)
		} else {
			fails(t, pushes, nil, atCoin, impl.RunFull)
		}
		if n <= 23 {
			leaves(t, copies, []string{"a"}, atCoin, slices.Repeat([]string{"a"}, n+1)...)
		} else {
			fails(t, copies, []string{"a"}, atCoin, impl.RunFull)
		}
	}
}

func TestFullStacksHaveRoomForWhatIsRemovedFirst(t *testing.T) {
	full := trueItems(24)
	below := func(n int, top ...string) []string { return append(slices.Clone(full[:n]), top...) }
	leaves(t, "", full, atCoin, full...)
	leaves(t, "drop", full, atCoin, full[:23]...)
	leaves(t, "swap", full, atCoin, below(22, full[23], full[22])...)
	leaves(t, "equal", full, atCoin, below(22, "")...)
	leaves(t, "equal", below(22, "a", "a"), atCoin, below(22, "\x01")...)
	leaves(t, "not", full, atCoin, below(23, "")...)
	leaves(t, "digest", full, atCoin, below(23, fourBytes(digestOf(full[23])))...)
	leaves(t, "verify", full, atCoin, full[:23]...)
	leaves(t, "if end", full, atCoin, full[:23]...)
	leaves(t, "if x61 else end", full, atCoin, below(23, "a")...)
	leaves(t, "sign", below(22, coinSig, key11), atCoin, below(22, "\x01")...)
	leaves(t, "many:1:1", below(22, coinSig, key11), atCoin, below(22, "\x01")...)
	leaves(t, "many:1:5", below(18, coinSig, "", "", "", "", key11), atCoin, below(18, "\x01")...)
	leaves(t, "many:5:5", full, atCoin, below(14, "")...)
	leaves(t, "after:10 older:5", full, atCoin, full...)
	fails(t, "after:11", full, atCoin, impl.RunEarly)
	fails(t, "verify", below(23, ""), atCoin, impl.RunFalse)
}

func TestRunBadForWhatIsNoScript(t *testing.T) {
	for i, ops := range noScripts() {
		for _, stack := range [][]string{nil, {"a"}, trueItems(24), {coinSig, key11}} {
			endsWith(t, ops, stack, someEnvs[i%len(someEnvs)], impl.RunBad)
		}
	}
	// It does not matter that the operation at fault would not be reached.
	endsWith(t, []impl.Op{{Code: 13, A: 9999}, {Code: 99}}, nil, impl.Env{}, impl.RunBad)
	endsWith(t, []impl.Op{{Code: 2}, {Code: 8}}, nil, impl.Env{}, impl.RunBad)
	endsWith(t, []impl.Op{{Code: 0}, {Code: 6}, {Code: 0, A: 1}, {Code: 8}}, nil, impl.Env{}, impl.RunBad)
	endsWith(t, slices.Repeat([]impl.Op{{Code: 2}}, 41), nil, impl.Env{}, impl.RunBad)
}

func TestRunBadForWhatIsNoStack(t *testing.T) {
	for _, text := range []string{"", "x", "dup", "drop", "verify", "after:9999", "if end", "many:5:5", "drop drop", "x verify"} {
		ops := mustParse(t, text)
		for _, n := range []int{25, 26, 48, 255, 256, 257, 1000, 1 << 16} {
			endsWith(t, ops, falseItems(n), impl.Env{}, impl.RunBad)
			endsWith(t, ops, slices.Repeat([]string{"a"}, n), atCoin, impl.RunBad)
		}
		for _, n := range []int{1, 2, 3, 12, 23, 24} {
			for at := range n {
				for _, long := range []string{strings.Repeat("a", 81), strings.Repeat("\x00", 81), strings.Repeat("ä", 41), strings.Repeat("a", 256), strings.Repeat("a", 1<<17)} {
					stack := trueItems(n)
					stack[at] = long
					endsWith(t, ops, stack, impl.Env{}, impl.RunBad)
					endsWith(t, ops, stack, atCoin, impl.RunBad)
				}
			}
		}
	}
}

func TestStacksAtTheirLimits(t *testing.T) {
	long := strings.Repeat("\xff", 80)
	leaves(t, "", nil, impl.Env{})
	leaves(t, "", []string{}, impl.Env{})
	leaves(t, "", []string{""}, impl.Env{}, "")
	for n := range 25 {
		leaves(t, "", trueItems(n), impl.Env{}, trueItems(n)...)
		leaves(t, "", slices.Repeat([]string{long}, n), impl.Env{}, slices.Repeat([]string{long}, n)...)
	}
	// Eighty bytes may be fewer characters; bytes count.
	leaves(t, "", []string{strings.Repeat("ä", 40)}, impl.Env{}, strings.Repeat("ä", 40))
	leaves(t, "x"+strings.Repeat("ff", 80)+" equal", []string{long}, impl.Env{}, "\x01")
	leaves(t, "digest", []string{long}, impl.Env{}, fourBytes(digestOf(long)))
	leaves(t, "dup", []string{long}, impl.Env{}, long, long)
}

// itemsOfAllKinds are items that are false, true, and true although they look like nothing or like false.
func itemsOfAllKinds() []string {
	return append(someItems(), "\x00", "\x00\x00", "0", "false", "\x01", "\x01\x01", "\x02", "\xff", " ", coinSig, key11)
}

func TestConditionsTakeTheirBranch(t *testing.T) {
	for _, item := range itemsOfAllKinds() {
		if item == "" {
			continue
		}
		leaves(t, "if xaa else xbb end", []string{"z", item}, atCoin, "z", "\xaa")
		leaves(t, "if xaa end", []string{item}, atCoin, "\xaa")
		leaves(t, "if else xbb end", []string{item}, atCoin)
		leaves(t, "if xaa end xcc", []string{item}, atCoin, "\xaa", "\xcc")
		leaves(t, "if end", []string{item}, atCoin)
		leaves(t, "if else end", []string{"z", item}, atCoin, "z")
	}
	leaves(t, "if xaa else xbb end", []string{"z", ""}, atCoin, "z", "\xbb")
	leaves(t, "if xaa end", []string{""}, atCoin)
	leaves(t, "if else xbb end", []string{""}, atCoin, "\xbb")
	leaves(t, "if xaa end xcc", []string{""}, atCoin, "\xcc")
	leaves(t, "if end", []string{""}, atCoin)
	leaves(t, "if else end", []string{"z", ""}, atCoin, "z")
	for _, text := range []string{"if end", "if else end", "if xaa else xbb end", "if if end end", "xaa drop if end"} {
		fails(t, text, nil, atCoin, impl.RunEmpty)
	}
	fails(t, "if if end end", []string{"a"}, atCoin, impl.RunEmpty)
	fails(t, "if else if end end", []string{""}, atCoin, impl.RunEmpty)
	fails(t, "if end if end", []string{"a"}, atCoin, impl.RunEmpty)
}

// harmful are words that end a run, or change its stack, if they are executed on a stack of no items, each one in its place.
var harmful = []string{
	"x", "x00", "dup", "drop", "swap", "equal", "not", "verify", "digest", "sign", "many:1:1", "many:5:5", "after:11", "after:9999", "older:6", "older:99", "x verify", "x01 verify x verify", "drop drop drop",
	"if end", "if else end", "if drop else drop end", "if xaa else xbb end", "x if xaa else xbb end", "x01 if xaa else xbb end", "if end if end", "x if drop else x verify end", "x01 if after:9999 else end",
	strings.TrimSpace(strings.Repeat("x ", 25)), strings.TrimSpace(strings.Repeat("xaa dup ", 10)),
}

func TestSkippedBranchesDoNothing(t *testing.T) {
	for _, word := range harmful {
		for _, below := range [][]string{nil, {"z"}, {""}, trueItems(23)} {
			yes, no := append(slices.Clone(below), "y"), append(slices.Clone(below), "")
			leaves(t, "if "+word+" end", no, atCoin, below...)
			leaves(t, "if "+word+" else end", no, atCoin, below...)
			leaves(t, "if else "+word+" end", yes, atCoin, below...)
			leaves(t, "if "+word+" else xbb end", no, atCoin, append(slices.Clone(below), "\xbb")...)
			leaves(t, "if xaa else "+word+" end", yes, atCoin, append(slices.Clone(below), "\xaa")...)
			leaves(t, "if "+word+" end xcc", no, atCoin, append(slices.Clone(below), "\xcc")...)
		}
		// On 24 items there is no room for what is skipped either.
		leaves(t, "if if "+word+" end else end", append(trueItems(23), ""), atCoin, trueItems(23)...)
	}
}

func TestSkippedBranchesWithinEachOther(t *testing.T) {
	for _, w := range harmful {
		if strings.Count(w, " ") > 12 {
			continue
		}
		// All that stands in the skipped branch is skipped, whichever branch of a condition in it that is.
		leaves(t, "if if "+w+" end end", []string{""}, atCoin)
		leaves(t, "if if "+w+" else "+w+" end end", []string{""}, atCoin)
		leaves(t, "if "+w+" if else "+w+" end "+w+" else xbb end", []string{""}, atCoin, "\xbb")
		leaves(t, "if xaa else if "+w+" else "+w+" end "+w+" end", []string{"y"}, atCoin, "\xaa")
		leaves(t, "if xaa else "+w+" if "+w+" end end xcc", []string{"y"}, atCoin, "\xaa", "\xcc")
		leaves(t, "if if else end "+w+" else xbb end", []string{""}, atCoin, "\xbb")
		leaves(t, "if if end if else end "+w+" else xbb end", []string{""}, atCoin, "\xbb")
		// A condition within the taken branch skips its own, and the other one of the outer condition stays skipped.
		leaves(t, "if x if "+w+" else xaa end else "+w+" end", []string{"y"}, atCoin, "\xaa")
		leaves(t, "if x01 if xaa else "+w+" end else "+w+" end", []string{"y"}, atCoin, "\xaa")
		leaves(t, "if "+w+" else x if "+w+" else xbb end xcc end", []string{""}, atCoin, "\xbb", "\xcc")
		leaves(t, "if "+w+" else x01 if xbb else "+w+" end xcc end", []string{""}, atCoin, "\xbb", "\xcc")
	}
	for _, w := range []string{"verify", "drop", "after:9999", "older:99", "x verify", "dup", "sign", "many:1:1"} {
		leaves(t, "if if if "+w+" else "+w+" end else if "+w+" else "+w+" end end else xbb end", []string{""}, atCoin, "\xbb")
		leaves(t, "if if if if "+w+" else "+w+" end "+w+" else "+w+" end "+w+" else "+w+" end "+w+" else xbb end", []string{""}, atCoin, "\xbb")
		leaves(t, "if xaa else if if if "+w+" else "+w+" end else "+w+" end else "+w+" end end", []string{"y"}, atCoin, "\xaa")
	}
}

// push is the word that pushes a byte.
func push(b byte) string {
	return "x" + impl.HexOf(string([]byte{b}))
}

// choices are all lists of so many truths.
func choices(n int) [][]bool {
	list := make([][]bool, 1<<n)
	for i := range list {
		for k := range n {
			list[i] = append(list[i], i>>k&1 == 1)
		}
	}
	return list
}

// tower is a script of conditions within each other, each one behind an item of its own, and what its run leaves. Each condition holds the next one in its first branch or in the other one, and a push of its own in the one beside it. What must not be executed stands in all branches that are skipped.
func tower(isFirst []bool, isTrue []bool, name byte, bomb string) (string, []string) {
	if len(isFirst) == 0 {
		return push(name), []string{string([]byte{name})}
	}
	inner, left := tower(isFirst[1:], isTrue[1:], name+1, bomb)
	beside := push(name | 0x40)
	if isFirst[0] == isTrue[0] {
		beside += " " + bomb
	} else {
		inner, left = bomb+" "+inner+" "+bomb, []string{string([]byte{name | 0x40})}
	}
	first, other := inner, beside
	if !isFirst[0] {
		first, other = beside, inner
	}
	item := "x" + impl.HexOf(truth(isTrue[0]))
	return strings.Join(strings.Fields(item+" if "+first+" else "+other+" end"), " "), left
}

func TestConditionsWithinEachOther(t *testing.T) {
	for _, bomb := range []string{"", "drop drop", "x verify", "after:9999", "older:99", "dup", "swap", "if verify end", "if else drop end"} {
		deepest := impl.NestMax
		if strings.HasPrefix(bomb, "if") {
			deepest--
		}
		for depth := range deepest + 1 {
			for _, isFirst := range choices(depth) {
				for _, isTrue := range choices(depth) {
					text, want := tower(isFirst, isTrue, 1, bomb)
					leaves(t, text, nil, atCoin, want...)
					leaves(t, text, []string{"z", ""}, atCoin, append([]string{"z", ""}, want...)...)
				}
			}
		}
	}
}

// ladder is a script of conditions within each other, each in the branch that the one around it takes; the other branches must not be executed.
func ladder(isTrue []bool) string {
	if len(isTrue) == 0 {
		return "xee"
	}
	inner := ladder(isTrue[1:])
	if isTrue[0] {
		return "if " + inner + " else x verify end"
	}
	return "if after:9999 else " + inner + " end"
}

func TestConditionsTakeAnItemEach(t *testing.T) {
	for depth := range impl.NestMax + 1 {
		for _, isTrue := range choices(depth) {
			var stack []string
			for _, is := range isTrue {
				stack = append([]string{truth(is)}, stack...)
			}
			leaves(t, ladder(isTrue), stack, atCoin, "\xee")
			leaves(t, ladder(isTrue)+" xdd", append([]string{"z"}, stack...), atCoin, "z", "\xee", "\xdd")
			for n := range stack {
				fails(t, ladder(isTrue), stack[n+1:], atCoin, impl.RunEmpty)
			}
		}
	}
}

func TestConditionsBehindEachOther(t *testing.T) {
	for _, isTrue := range choices(6) {
		var words, want []string
		for _, is := range isTrue {
			words = append(words, "x"+impl.HexOf(truth(is)), "if xaa else xbb end")
			want = append(want, map[bool]string{true: "\xaa", false: "\xbb"}[is])
		}
		leaves(t, strings.Join(words, " "), nil, atCoin, want...)
	}
}

func TestEqualOfAllItems(t *testing.T) {
	list := append(itemsOfAllKinds()[:60:60], "\x00", "\x00\x00", "a", "A", "ab", "ba", strings.Repeat("a", 79), strings.Repeat("a", 80), strings.Repeat("a", 79)+"b", "b"+strings.Repeat("a", 79))
	for _, a := range list {
		for _, b := range list {
			leaves(t, "equal", []string{"z", a, b}, atCoin, "z", truth(a == b))
		}
	}
}

func TestNotOfAllItems(t *testing.T) {
	for _, item := range itemsOfAllKinds() {
		leaves(t, "not", []string{"z", item}, atCoin, "z", truth(item == ""))
		leaves(t, "not not", []string{item}, atCoin, truth(item != ""))
	}
	leaves(t, "not", []string{""}, atCoin, "\x01")
	leaves(t, "not", []string{"\x01"}, atCoin, "")
	leaves(t, "not", []string{"\x00"}, atCoin, "")
	leaves(t, "not", []string{"false"}, atCoin, "")
}

func TestDigestOfAllItems(t *testing.T) {
	for _, item := range itemsOfAllKinds() {
		leaves(t, "digest", []string{"z", item}, atCoin, "z", fourBytes(digestOf(item)))
		leaves(t, "digest digest", []string{item}, atCoin, fourBytes(digestOf(fourBytes(digestOf(item)))))
	}
	leaves(t, "digest", []string{"abc"}, atCoin, "\x3a\x6b\x53\x9e")
	// The digests of false and of true are both true.
	leaves(t, "digest not", []string{""}, atCoin, "")
	leaves(t, "digest not", []string{"\x01"}, atCoin, "")
}

func TestVerifyOfAllItems(t *testing.T) {
	for _, item := range itemsOfAllKinds() {
		for _, below := range [][]string{nil, {"z"}, {""}, trueItems(23)} {
			stack := append(slices.Clone(below), item)
			if item == "" {
				fails(t, "verify", stack, atCoin, impl.RunFalse)
				fails(t, "verify drop", stack, atCoin, impl.RunFalse)
				fails(t, "verify after:9999", stack, atCoin, impl.RunFalse)
			} else {
				leaves(t, "verify", stack, atCoin, below...)
			}
		}
	}
}

// aroundNumber are numbers below, at and above a number.
func aroundNumber(n int) []int {
	return []int{math.MinInt, math.MinInt + n, -1 << 32, -n - 1, -n, -1, 0, 1, n - 2, n - 1, n, n + 1, n + 2, n + 256, n + 65536, n + 1<<32, n - 1<<32, n - 256, math.MaxInt - 1, math.MaxInt}
}

// demandIsRight tells where an operation that demands something does not leave all stacks as they are, or end the run with RunEarly.
func demandIsRight(t *testing.T, op impl.Op, env impl.Env, isReached bool) {
	t.Helper()
	for _, stack := range [][]string{nil, {""}, {"z", "a"}, trueItems(24)} {
		if isReached {
			leaves(t, scriptTextOf([]impl.Op{op}), stack, env, stack...)
		} else {
			endsWith(t, []impl.Op{op}, stack, env, impl.RunEarly)
		}
	}
}

func TestAfterDemandsTheHeight(t *testing.T) {
	for _, a := range []int{0, 1, 2, 99, 100, 252, 253, 300, 9998, 9999} {
		for _, height := range aroundNumber(a) {
			for _, age := range []int{math.MinInt, -1, 0, a - 1, a, a + 1, math.MaxInt} {
				demandIsRight(t, impl.Op{Code: 13, A: a}, impl.Env{Height: height, Age: age}, height >= a)
			}
		}
	}
}

func TestOlderDemandsTheAge(t *testing.T) {
	for a := 1; a <= impl.AgeMax; a++ {
		for _, age := range aroundNumber(a) {
			for _, height := range []int{math.MinInt, -1, 0, a - 1, a, a + 1, math.MaxInt} {
				demandIsRight(t, impl.Op{Code: 14, A: a}, impl.Env{Height: height, Age: age}, age >= a)
			}
		}
	}
}

func TestAfterAtAllHeights(t *testing.T) {
	for a := range impl.HeightMax + 1 {
		ops := []impl.Op{{Code: 13, A: a}}
		endsWith(t, ops, nil, impl.Env{Height: a - 1, Age: 99}, impl.RunEarly)
		if _, code := impl.RunScript(ops, nil, impl.Env{Height: a}); code != impl.RunFine {
			t.Errorf("RunScript(after:%d) at that height ends with %d", a, code)
		}
	}
}

// notSigs are items that are no signature of a key and a message, though some of them are not far from one.
func notSigs(secret int, text string) []string {
	right := sigItem(secret, text)
	m := signedWith(secret, nonceOf(secret, text), text)
	list := []string{
		"", "\x00", "\x01", right[:3], right[:4], right[:5], right[:7], right + "\x00", "\x00" + right, right + right, right[1:], right[4:] + right[:4], strings.Repeat("\x00", 8), strings.Repeat("\xff", 8), strings.Repeat("a", 80), impl.HexOf(right),
		keyItem(secret), keyItem(secret) + keyItem(secret), fourBytes(m.Sig.R), fourBytes(m.Sig.S),
		fourBytes(m.Sig.R+impl.GroupMod) + right[4:], right[:4] + fourBytes(m.Sig.S+impl.GroupOrder), right[:4] + fourBytes(m.Sig.S+2*impl.GroupOrder), fourBytes(0) + right[4:], fourBytes(1) + right[4:], fourBytes(impl.GroupMod-m.Sig.R) + right[4:],
		right[:4] + fourBytes((m.Sig.S+1)%impl.GroupOrder), right[:4] + fourBytes(impl.GroupOrder-1-m.Sig.S), right[:4] + fourBytes(0), sigItem(secret, text+" "), sigItem(secret%5+77, text),
	}
	for i := range right {
		list = append(list, changed(right, i, right[i]^1), changed(right, i, right[i]^128), right[:i]+right[i+1:], right[:i]+"a"+right[i:])
	}
	return list
}

// notKeys are items that are not the key of a secret, though some of them are not far from it.
func notKeys(secret int) []string {
	right := keyItem(secret)
	key := powerOf(impl.GroupBase, secret)
	list := []string{
		"", "\x00", "\x01", right[:3], right[1:], right + "\x00", "\x00" + right, right + right, right + right[:1], right + right[:3], right + right + "a", "\x00\x00\x00\x00", "\x00\x00\x00\x01", "\x00\x00\x00\x02", "\xff\xff\xff\xff", "abc", "abcde", "abcdefg", "abcdefghi", strings.Repeat("a", 80), impl.HexOf(right),
		fourBytes(key + impl.GroupMod), fourBytes(impl.GroupMod - key), fourBytes(impl.GroupMod), fourBytes(impl.GroupMod - 1), fourBytes(impl.GroupMod + 1), fourBytes(impl.NumTop), right[3:] + right[2:3] + right[1:2] + right[:1], keyItem(secret%5 + 77),
	}
	for i := range right {
		list = append(list, changed(right, i, right[i]^1), changed(right, i, right[i]^128), right[:i]+right[i+1:], right[:i]+"a"+right[i:])
	}
	return list
}

func TestSignOfValidSignatures(t *testing.T) {
	leaves(t, "sign", []string{coinSig, key11}, atCoin, "\x01")
	for _, secret := range signers {
		for _, text := range someMessages() {
			stack := []string{"z", sigItem(secret, text), keyItem(secret)}
			leaves(t, "sign", stack, impl.Env{Text: text}, "z", "\x01")
			leaves(t, "sign xaa", stack, impl.Env{Text: text, Height: -5, Age: -5}, "z", "\x01", "\xaa")
			m := mustSign(t, secret, text)
			leaves(t, "sign", []string{impl.SigItem(m.Sig), impl.DigestBytes(m.Key)}, impl.Env{Text: text}, "\x01")
		}
	}
}

func TestSignOfOtherItems(t *testing.T) {
	for _, secret := range signers {
		for _, text := range someMessages()[:8] {
			env := impl.Env{Text: text}
			right, key := sigItem(secret, text), keyItem(secret)
			for _, sig := range notSigs(secret, text) {
				leaves(t, "sign", []string{"z", sig, key}, env, "z", "")
				leaves(t, "sign not xaa", []string{sig, key}, env, "\x01", "\xaa")
			}
			for _, other := range notKeys(secret) {
				leaves(t, "sign", []string{"z", right, other}, env, "z", "")
				leaves(t, "sign", []string{other, other}, env, "")
			}
			for _, other := range someMessages() {
				leaves(t, "sign", []string{right, key}, impl.Env{Text: other}, truth(other == text))
			}
			for _, other := range signers {
				leaves(t, "sign", []string{right, keyItem(other)}, env, truth(other == secret))
			}
			// The key stands on the signature, not below it.
			leaves(t, "sign", []string{key, right}, env, "")
			leaves(t, "swap sign", []string{key, right}, env, "\x01")
		}
	}
}

// members are the secrets of the letters a to e; other letters stand for items of other forms, or of nobody.
var members = map[rune]int{'a': 11, 'b': 22, 'c': 33, 'd': 44, 'e': 55}

// keysNamed are the keys of letters.
func keysNamed(letters string) []string {
	var list []string
	for _, letter := range letters {
		other := map[rune]string{'-': "", '3': "abc", '5': "abcde", '7': "abcdefg", '9': "abcdefghi", '0': "\x00\x00\x00\x00", '1': "\x00\x00\x00\x01", '8': coinSig, 'x': fourBytes(impl.GroupMod + 4194304)}
		if secret, is := members[letter]; is {
			list = append(list, keyItem(secret))
		} else {
			list = append(list, other[letter])
		}
	}
	return list
}

// sigsNamed are the signatures of the message coin by letters.
func sigsNamed(letters string) []string {
	var list []string
	for _, letter := range letters {
		other := map[rune]string{'-': "", '3': "abc", '5': "abcde", '7': "abcdefg", '9': "abcdefghi", '0': "\x00\x00\x00\x00\x00\x00\x00\x00", '1': sigItem(11, "Coin"), '4': key11, 'x': sigItem(66, "coin")}
		if secret, is := members[letter]; is {
			list = append(list, sigItem(secret, "coin"))
		} else {
			list = append(list, other[letter])
		}
	}
	return list
}

// manyPushes tells where OpMany of the signatures and keys of letters does not push what it must.
func manyPushes(t *testing.T, sigs string, keys string, want bool) {
	t.Helper()
	ops := []impl.Op{{Code: 12, A: len(sigs), B: len(keys)}}
	stack := slices.Concat([]string{"z", ""}, sigsNamed(sigs), keysNamed(keys))
	got, code := impl.RunScript(ops, stack, atCoin)
	if code != impl.RunFine || !slices.Equal(got, []string{"z", "", truth(want)}) {
		t.Errorf("OpMany with the signatures %s and the keys %s leaves %q, %d, want %t", sigs, keys, got, code, want)
	}
}

func TestManyOfTheTable(t *testing.T) {
	for _, c := range []struct {
		sigs string
		keys string
		want bool
	}{
		{"a", "a", true}, {"a", "b", false}, {"x", "a", false}, {"-", "a", false}, {"a", "-", false},
		{"a", "ab", true}, {"b", "ab", true}, {"c", "ab", false}, {"ab", "ab", true}, {"ba", "ab", false}, {"aa", "ab", false}, {"bb", "ab", false}, {"ab", "ba", false},
		{"a", "abc", true}, {"b", "abc", true}, {"c", "abc", true}, {"d", "abc", false}, {"ab", "abc", true}, {"ac", "abc", true}, {"bc", "abc", true}, {"ba", "abc", false}, {"ca", "abc", false}, {"cb", "abc", false},
		{"aa", "abc", false}, {"bb", "abc", false}, {"cc", "abc", false}, {"abc", "abc", true}, {"acb", "abc", false}, {"cba", "abc", false}, {"bca", "abc", false}, {"aab", "abc", false}, {"abb", "abc", false},
		// A key that stands there twice is good for two signatures, also for the same one twice.
		{"a", "aa", true}, {"aa", "aa", true}, {"ab", "aab", true}, {"ab", "aba", true}, {"ba", "aba", true}, {"aa", "aba", true}, {"bb", "aba", false}, {"aba", "aba", true}, {"aab", "aba", false}, {"aaa", "aab", false}, {"aab", "aab", true}, {"abb", "abb", true},
		{"abcde", "abcde", true}, {"abced", "abcde", false}, {"bacde", "abcde", false}, {"edcba", "abcde", false}, {"abcdd", "abcde", false}, {"abcdx", "abcde", false}, {"xbcde", "abcde", false}, {"aaaaa", "aaaaa", true}, {"aaaab", "aaaaa", false},
		{"ace", "abcde", true}, {"aec", "abcde", false}, {"cde", "abcde", true}, {"abc", "abcde", true}, {"ae", "abcde", true}, {"ea", "abcde", false}, {"e", "abcde", true}, {"bcde", "abcde", true}, {"abce", "abcde", true}, {"bcdea", "abcde", false},
		// Items of another form fit nothing, not even each other, and keys among them fit all the same.
		{"a", "-a", true}, {"a", "a-", true}, {"a", "3579a", true}, {"a", "a3579", true}, {"b", "a0b1-", true}, {"ab", "-a-b-", true}, {"ba", "-a-b-", false}, {"ac", "a8c", true}, {"-", "-", false}, {"3", "3", false}, {"--", "--", false}, {"5", "5", false}, {"7", "7", false}, {"9", "9", false}, {"0", "0", false}, {"4", "8", false}, {"a", "x", false}, {"a", "xa", true},
		{"a-", "abc", false}, {"-a", "abc", false}, {"a3", "abc", false}, {"7b", "abc", false}, {"b9", "abc", false}, {"a0", "abc", false}, {"1b", "abc", false}, {"a1", "aab", false}, {"4", "a", false}, {"1", "a", false}, {"-bcde", "abcde", false}, {"abcd-", "abcde", false}, {"ab-de", "abcde", false},
	} {
		manyPushes(t, c.sigs, c.keys, c.want)
	}
}

// wordsOf are all words of so many letters.
func wordsOf(letters string, n int) []string {
	list := []string{""}
	for range n {
		var longer []string
		for _, word := range list {
			for _, letter := range letters {
				longer = append(longer, word+string(letter))
			}
		}
		list = longer
	}
	return list
}

func TestManyOfAllSmallOnes(t *testing.T) {
	sameMember := func(sig string, key string) bool { return sig == key && strings.Contains("abcde", sig) }
	held := 0
	for b := 1; b <= 3; b++ {
		for _, keys := range wordsOf("abc-", b) {
			for a := 1; a <= b; a++ {
				for _, sigs := range wordsOf("abcx-", a) {
					want := canMatch(strings.Split(sigs, ""), strings.Split(keys, ""), sameMember)
					manyPushes(t, sigs, keys, want)
					if want {
						held++
					}
				}
			}
		}
	}
	if held < 200 {
		t.Errorf("OpMany holds just %d times", held)
	}
	for _, sigs := range wordsOf("abcde", 2) {
		manyPushes(t, sigs, "abcde", sigs[0] < sigs[1])
		manyPushes(t, sigs, "edcba", sigs[0] > sigs[1])
	}
	for _, sigs := range wordsOf("abcde", 4) {
		manyPushes(t, sigs, "abcde", sigs[0] < sigs[1] && sigs[1] < sigs[2] && sigs[2] < sigs[3])
	}
}

func TestManyOfEachMessage(t *testing.T) {
	for _, text := range someMessages() {
		stack := []string{sigItem(11, text), sigItem(33, text), keyItem(11), keyItem(22), keyItem(33)}
		for _, other := range someMessages() {
			leaves(t, "many:2:3", stack, impl.Env{Text: other}, truth(other == text))
		}
	}
}

func TestManyOfAllNumbers(t *testing.T) {
	names := "abcde"
	for b := 1; b <= 5; b++ {
		for a := 1; a <= b; a++ {
			ops := []impl.Op{{Code: 12, A: a, B: b}}
			last := slices.Concat(sigsNamed(names[b-a:b]), keysNamed(names[:b]))
			for _, below := range [][]string{nil, {"z"}, sigsNamed("ab"), trueItems(14)} {
				got, code := impl.RunScript(ops, append(slices.Clone(below), last...), atCoin)
				if code != impl.RunFine || !slices.Equal(got, append(slices.Clone(below), "\x01")) {
					t.Errorf("OpMany with the last %d signatures of %d keys leaves %q, %d", a, b, got, code)
				}
			}
			// The deepest signature counts just as the others do.
			last[0] = sigItem(66, "coin")
			if got, code := impl.RunScript(ops, last, atCoin); code != impl.RunFine || !slices.Equal(got, []string{""}) {
				t.Errorf("OpMany with a wrong first signature of %d leaves %q, %d", a, got, code)
			}
			endsWith(t, ops, last[1:], atCoin, impl.RunEmpty)
		}
	}
}

// pieces are operations of which scripts are put together that often run to their end, and otherwise end with each of the codes.
func pieces() []impl.Op {
	list := []impl.Op{{Code: 0}, {Code: 0, Text: "\x01"}, {Code: 0, Text: "\x00"}, {Code: 0, Text: coinSig}, {Code: 0, Text: key11}, {Code: 0, Text: "abc"}, {Code: 13, A: 10}, {Code: 13, A: 11}, {Code: 14, A: 5}, {Code: 14, A: 6}}
	for _, code := range []int{0, 1, 1, 1, 2, 3, 4, 5, 5, 9, 10, 11} {
		list = append(list, impl.Op{Code: code})
	}
	return append(list, impl.Op{Code: 12, A: 1, B: 1}, impl.Op{Code: 12, A: 1, B: 2}, impl.Op{Code: 12, A: 2, B: 2}, impl.Op{Code: 1}, impl.Op{Code: 0, Text: "\x01"}, impl.Op{Code: 0, Text: sigItem(22, "coin")}, impl.Op{Code: 0, Text: key22})
}

// someStacks are stacks of many lengths, with items that are false, true, keys and signatures.
func someStacks() [][]string {
	sigs, keys := sigsNamed("abc"), keysNamed("abc")
	list := [][]string{nil, {""}, {"\x01"}, {"", ""}, {"\x01", ""}, {"", "\x01"}, {"a", "a"}, {"abc", "\x01"}, {coinSig, "abc", "\x01"}, {coinSig}, {coinSig, key11}, {coinSig, ""}, {sigs[1], keys[1], "\x01"}, append(sigs[:2:2], keys...), append(sigs[:1:1], keys[:2]...)}
	for _, n := range []int{3, 5, 8, 12, 20, 22, 23, 24} {
		list = append(list, trueItems(n), falseItems(n), slices.Repeat([]string{"", "\x01"}, n)[:n], append(trueItems(n-1), ""))
	}
	return append(list, slices.Repeat([]string{coinSig, key11}, 12), slices.Repeat([]string{strings.Repeat("a", 80)}, 24))
}

// someRuns calls a function with scripts, stacks and what they are run with, until it was called so many times.
func someRuns(n int, seed int64, run func(ops []impl.Op, stack []string, env impl.Env)) {
	r := rand.New(rand.NewSource(seed))
	ops, stacks := pieces(), someStacks()
	for range n {
		run(randomScript(r, ops, 1+r.Intn(40), 4), stacks[r.Intn(len(stacks))], someEnvs[r.Intn(len(someEnvs))])
	}
}

// eachCode tells which of the codes a test has met too seldom.
func eachCode(t *testing.T, met map[int]int, codes ...int) {
	t.Helper()
	for _, code := range codes {
		if met[code] < 50 {
			t.Errorf("just %d runs end with the code %d", met[code], code)
		}
	}
}

func TestP62WhatIsBehindARun(t *testing.T) {
	met := map[int]int{}
	check := func(ops []impl.Op, stack []string, env impl.Env) {
		got, code := runIsRight(t, ops, stack, env)
		met[code]++
		if code < impl.RunFine || code > impl.RunFull || code != impl.RunFine && len(got) != 0 || len(got) > 24 {
			t.Fatalf("RunScript(%#v, %q, %v) is %q, %d", ops, stack, env, got, code)
		}
		for _, item := range got {
			if len(item) > 80 {
				t.Fatalf("RunScript(%#v, %q, %v) leaves an item of %d bytes", ops, stack, env, len(item))
			}
		}
	}
	someRuns(30000, 62, check)
	for i, ops := range someScripts() {
		stacks := someStacks()
		check(ops, stacks[i%len(stacks)], someEnvs[i%len(someEnvs)])
		check(ops, trueItems(i%25), atCoin)
	}
	for i, ops := range noScripts() {
		check(ops, trueItems(i%25), atCoin)
	}
	eachCode(t, met, 0, 1, 2, 3, 4, 5)
}

func TestP62AllShortScripts(t *testing.T) {
	ops := append(conditionOps[:3:3], impl.Op{Code: 0}, impl.Op{Code: 0, Text: "\x01"}, impl.Op{Code: 1}, impl.Op{Code: 2}, impl.Op{Code: 5}, impl.Op{Code: 9}, impl.Op{Code: 13, A: 11})
	met := map[int]int{}
	for n := range 6 {
		for _, list := range sequences(ops, n) {
			if !scriptIsOk(list) {
				continue
			}
			for _, stack := range [][]string{nil, {""}, {"\x01"}, {"\x01", ""}, {"", "\x01"}} {
				met[runCode(t, list, stack, atCoin)]++
			}
		}
	}
	eachCode(t, met, 0, 2, 3, 4)
	for n := range 9 {
		for _, list := range sequences(append(conditionOps[:3:3], impl.Op{Code: 0}), n) {
			if scriptIsOk(list) {
				runIsRight(t, list, []string{"z", "y", "", "x", "", "w"}, atCoin)
			}
		}
	}
}

func TestRunsAreThoseOfTextsAndBytes(t *testing.T) {
	someRuns(3000, 11, func(ops []impl.Op, stack []string, env impl.Env) {
		got, code := impl.RunScript(ops, stack, env)
		for _, same := range [][]impl.Op{mustParse(t, scriptTextOf(ops)), mustRead(t, scriptBytesOf(ops)), ops} {
			if again, codeAgain := impl.RunScript(same, stack, env); codeAgain != code || !slices.Equal(again, got) {
				t.Fatalf("RunScript(%#v, %q, %v) is %q, %d and then %q, %d", ops, stack, env, got, code, again, codeAgain)
			}
		}
	})
}

// opens tells where Unlock is not as the document tells, and whether it holds.
func opens(t *testing.T, lock string, ops []impl.Op, witness []string, env impl.Env) bool {
	t.Helper()
	stack, code := ran(ops, witness, env)
	want := code == 0 && len(stack) == 1 && stack[0] != ""
	if got := impl.Unlock(lock, witness, env); got != want {
		t.Fatalf("Unlock(%x, %q, %v) is %t", lock, witness, env, got)
	}
	return want
}

func TestP63UnlockOfTheTable(t *testing.T) {
	payer := sigItem(22, "coin")
	for _, c := range []struct {
		text    string
		witness []string
		want    bool
	}{
		{"", nil, false}, {"", []string{"\x01"}, true}, {"", []string{""}, false}, {"", []string{"\x01", "\x01"}, false}, {"", []string{"", "\x01"}, false}, {"", []string{"\x00"}, true}, {"", []string{"abc"}, true}, {"", []string{strings.Repeat("a", 80)}, true}, {"", []string{strings.Repeat("a", 81)}, false},
		{"x", nil, false}, {"x01", nil, true}, {"x00", nil, true}, {"x0000", nil, true}, {"x666f", nil, true}, {"x01", []string{"\x01"}, false}, {"x01", []string{""}, false}, {"x01 x01", nil, false}, {"x01 x", nil, false}, {"x x01", nil, false}, {"x x01 swap drop", nil, true}, {"x01 drop", nil, false}, {"x01", trueItems(24), false}, {"dup", trueItems(24), false},
		{"x01 verify", nil, false}, {"x verify x01", nil, false}, {"x01 verify x01", nil, true}, {"drop x01", nil, false}, {"drop x01", []string{""}, true}, {"drop", []string{"a"}, false}, {"drop", []string{"a", "b"}, true}, {"drop", []string{"", "b"}, false},
		{"x01 after:10", nil, true}, {"x01 after:11", nil, false}, {"x01 older:5", nil, true}, {"x01 older:6", nil, false}, {"x01 if x01 else after:9999 end", nil, true}, {"x if x01 else after:9999 end", nil, false},
		{"x00400000 sign", []string{coinSig}, true}, {"x00400000 sign", []string{payer}, false}, {"x00400000 sign", nil, false}, {"x00400000 sign", []string{""}, false}, {"x00400000 sign", []string{"a", coinSig}, false}, {"x00400000 sign", []string{coinSig, coinSig}, false}, {"x0008a000 sign", []string{payer}, true}, {"x00400000 sign not", []string{payer}, true},
		{"digest x3a6b539e equal", []string{"abc"}, true}, {"digest x3a6b539e equal", []string{"abd"}, false}, {"digest x3a6b539e equal", []string{"", "abc"}, false}, {"digest x3a6b539e equal", nil, false},
		{"x00400000 x0008a000 many:2:2", []string{coinSig, payer}, true}, {"x00400000 x0008a000 many:2:2", []string{payer, coinSig}, false}, {"x00400000 x0008a000 many:1:2", []string{payer}, true}, {"x00400000 x0008a000 many:1:2", []string{coinSig, payer}, false}, {"x00400000 x0008a000 many:2:2", []string{payer}, false},
		{timedLock, []string{coinSig, "abc", "\x01"}, true}, {timedLock, []string{payer, ""}, false}, {timedLock, []string{coinSig, "abd", "\x01"}, false}, {timedLock, []string{"z", coinSig, "abc", "\x01"}, false},
	} {
		ops := mustParse(t, c.text)
		lock := scriptBytesOf(ops)
		if got := impl.Unlock(lock, c.witness, atCoin); got != c.want {
			t.Errorf("Unlock of %q by %q is %t", c.text, c.witness, got)
		}
		if opens(t, lock, ops, c.witness, atCoin) != c.want {
			t.Errorf("the second writing takes %q by %q the other way", c.text, c.witness)
		}
	}
	if lock := scriptBytesOf(mustParse(t, timedLock)); !impl.Unlock(lock, []string{payer, ""}, impl.Env{Text: "coin", Height: 300}) || impl.Unlock(lock, []string{payer, ""}, impl.Env{Text: "coin", Height: 299}) {
		t.Errorf("Unlock of a timed lock does not follow the height")
	}
}

func TestP63UnlockOfAnyLocks(t *testing.T) {
	met := map[int]int{}
	opened := 0
	check := func(ops []impl.Op, stack []string, env impl.Env) {
		_, code := ran(ops, stack, env)
		met[code]++
		if opens(t, scriptBytesOf(ops), ops, stack, env) {
			opened++
		}
		// With just one item left there is more to open.
		for len(stack) > 1 && len(ops) < 40 {
			ops, stack = append([]impl.Op{{Code: 2}}, ops...), stack[1:]
			if opens(t, scriptBytesOf(ops), ops, stack, env) {
				opened++
			}
		}
	}
	someRuns(20000, 63, check)
	eachCode(t, met, 0, 2, 3, 4, 5)
	if opened < 300 {
		t.Errorf("just %d locks are opened", opened)
	}
}

func TestP63UnlockOfWhatIsNoLock(t *testing.T) {
	for _, witness := range [][]string{nil, {"\x01"}, {"a"}, {"a", "b"}, {coinSig}, trueItems(24)} {
		for _, ops := range noScripts() {
			if areWritten(ops) && impl.Unlock(scriptBytesOf(ops), witness, atCoin) {
				t.Errorf("Unlock of the bytes of %#v by %q holds", ops, witness)
			}
		}
		for _, s := range someBytes() {
			if _, ok := impl.ScriptRead(s); !ok && impl.Unlock(s, witness, atCoin) {
				t.Errorf("Unlock(%x) by %q holds", s, witness)
			}
		}
		for _, s := range []string{"\x00", "\x00\x01", "\x00\x02a", "\x00\x01a\x00", "\x0c\x01", "\x0d", "\x0d\xfd\x05\x00", "\x0e\x00", "\x06", "\x07", "\x08", "\x0f", "\x00\x01a\x0f", "\x00\x01a\x08", "\xff", "x01", "x00400000 sign", "\x00\xfd\x01\x00a"} {
			if impl.Unlock(s, witness, atCoin) {
				t.Errorf("Unlock(%x) by %q holds", s, witness)
			}
		}
	}
	// Each beginning of a lock that is no lock itself.
	lock := scriptBytesOf(mustParse(t, timedLock))
	for n := range lock {
		if _, ok := impl.ScriptRead(lock[:n]); !ok && impl.Unlock(lock[:n], []string{coinSig, "abc", "\x01"}, atCoin) {
			t.Errorf("Unlock(%x) holds", lock[:n])
		}
	}
}

func TestP63UnlockByWhatIsNoStack(t *testing.T) {
	drops := func(n int) string { return strings.Repeat("\x02", n) }
	for n := 1; n <= 24; n++ {
		if !impl.Unlock(drops(n-1), trueItems(n), atCoin) {
			t.Errorf("Unlock by %d items does not hold", n)
		}
		for at := range n {
			for _, length := range []int{79, 80, 81, 82, 256} {
				witness := trueItems(n)
				witness[at] = strings.Repeat("a", length)
				if impl.Unlock(drops(n-1), witness, atCoin) != (length <= 80) {
					t.Errorf("Unlock by an item of %d bytes among %d is %t", length, n, length > 80)
				}
			}
		}
	}
	for n := 25; n <= 41; n++ {
		if impl.Unlock(drops(n-1), slices.Repeat([]string{"a"}, n), atCoin) {
			t.Errorf("Unlock by %d items holds", n)
		}
	}
	if impl.Unlock("\x00\x01a", falseItems(25), atCoin) || impl.Unlock("", falseItems(1<<16), atCoin) {
		t.Errorf("Unlock by too many items holds")
	}
}

func TestP64TwoScriptsTogether(t *testing.T) {
	first, second, whole := map[int]int{}, map[int]int{}, map[int]int{}
	r := rand.New(rand.NewSource(64))
	ops, stacks := pieces(), someStacks()
	for range 40000 {
		a, b := randomScript(r, ops, r.Intn(21), 4), randomScript(r, ops, r.Intn(21), 4)
		stack, env := stacks[r.Intn(len(stacks))], someEnvs[r.Intn(len(someEnvs))]
		checkTogether(t, a, b, stack, env, first, second, whole)
	}
	eachCode(t, first, 0, 2, 3, 4, 5)
	eachCode(t, second, 0, 2, 3, 4, 5)
	eachCode(t, whole, 0, 2, 3, 4, 5)
}

// checkTogether tells where the run of two scripts together is not that of one behind the other, and counts how these end.
func checkTogether(t *testing.T, a []impl.Op, b []impl.Op, stack []string, env impl.Env, first map[int]int, second map[int]int, whole map[int]int) {
	t.Helper()
	want, code := impl.RunScript(a, stack, env)
	first[code]++
	if code == impl.RunFine {
		want, code = impl.RunScript(b, want, env)
		second[code]++
	}
	got, codeOfBoth := impl.RunScript(slices.Concat(a, b), stack, env)
	whole[codeOfBoth]++
	if codeOfBoth != code || !slices.Equal(got, want) {
		t.Fatalf("RunScript(%#v and %#v, %q, %v) is %q, %d, want %q, %d", a, b, stack, env, got, codeOfBoth, want, code)
	}
}

func TestP64AllPairsOfTheTable(t *testing.T) {
	first, second, whole := map[int]int{}, map[int]int{}, map[int]int{}
	long := [][]string{falseItems(25), {strings.Repeat("a", 81)}, append(trueItems(10), strings.Repeat("a", 100))}
	for _, a := range fixedRuns {
		for _, b := range fixedRuns {
			for _, stack := range append(long, a.stack, slices.Concat(b.stack, a.stack)) {
				checkTogether(t, mustParse(t, a.text), mustParse(t, b.text), stack, atCoin, first, second, whole)
			}
		}
	}
	eachCode(t, first, 0, 1, 2, 3, 4)
	eachCode(t, second, 0, 2, 3, 4)
	eachCode(t, whole, 0, 1, 2, 3, 4)
	// Together they must be a script, too.
	forty := slices.Repeat([]impl.Op{{Code: 5}}, 40)
	endsWith(t, append(forty[:40:40], impl.Op{Code: 5}), []string{"a"}, atCoin, impl.RunBad)
	leaves(t, scriptTextOf(forty), []string{"a"}, atCoin, "\x01")
}

func TestP65GreaterHeightsAndAges(t *testing.T) {
	fine := 0
	check := func(ops []impl.Op, stack []string, env impl.Env) {
		want, code := impl.RunScript(ops, stack, env)
		if code != impl.RunFine {
			return
		}
		fine++
		for _, more := range []impl.Env{{Height: 1}, {Age: 1}, {Height: 1, Age: 1}, {Height: 90, Age: 94}, {Height: 10000}, {Age: 100}} {
			later := impl.Env{Text: env.Text, Height: env.Height + more.Height, Age: env.Age + more.Age}
			if later.Height < env.Height || later.Age < env.Age {
				later.Height, later.Age = math.MaxInt, math.MaxInt
			}
			if got, code := impl.RunScript(ops, stack, later); code != impl.RunFine || !slices.Equal(got, want) {
				t.Fatalf("RunScript(%#v, %q, %v) is %q, %d, but %q at %v", ops, stack, later, got, code, want, env)
			}
		}
	}
	someRuns(20000, 65, check)
	for _, c := range fixedRuns {
		check(mustParse(t, c.text), c.stack, atCoin)
	}
	for a := 1; a <= 99; a++ {
		check([]impl.Op{{Code: 13, A: a}, {Code: 14, A: a}}, []string{"a"}, impl.Env{Height: a, Age: a})
	}
	if fine < 2000 {
		t.Errorf("just %d runs end with RunFine", fine)
	}
}

func TestStacksAndScriptsOfRunsStay(t *testing.T) {
	someRuns(4000, 7, func(ops []impl.Op, stack []string, env impl.Env) {
		// What is behind the lengths of the slices is not changed either.
		givenOps := append(slices.Clone(ops), impl.Op{Code: 3, A: 7, Text: "behind"}, impl.Op{Code: 4})
		givenStack := append(slices.Clone(stack), "behind", "further behind")
		opsBefore, stackBefore := slices.Clone(givenOps), slices.Clone(givenStack)
		impl.RunScript(givenOps[:len(ops)], givenStack[:len(stack)], env)
		impl.Unlock(scriptBytesOf(ops), givenStack[:len(stack)], env)
		if !slices.Equal(givenOps, opsBefore) || !slices.Equal(givenStack, stackBefore) {
			t.Fatalf("%#v became %#v, and %q became %q", opsBefore, givenOps, stackBefore, givenStack)
		}
	})
}

func TestStacksThatWereHandedOutAreOnesOwn(t *testing.T) {
	check := func(ops []impl.Op, stack []string, env impl.Env) {
		want, code := ran(ops, stack, env)
		if code != 0 {
			return
		}
		givenOps, givenStack := slices.Clone(ops), slices.Clone(stack)
		handed, _ := impl.RunScript(givenOps, givenStack, env)
		other, _ := impl.RunScript(givenOps, givenStack, env)
		for i := range handed[:cap(handed)] {
			handed[:cap(handed)][i] = "changed"
		}
		if !slices.Equal(givenOps, ops) || !slices.Equal(givenStack, stack) || !slices.Equal(other, want) {
			t.Fatalf("a change of the stack of %#v on %q changes another one", ops, stack)
		}
		for i := range givenStack {
			givenStack[i] = "changed"
		}
		again, code := impl.RunScript(ops, stack, env)
		if code != impl.RunFine || !slices.Equal(other, want) || !slices.Equal(again, want) {
			t.Fatalf("RunScript(%#v, %q, %v) is %q, %d, want %q", ops, stack, env, again, code, want)
		}
	}
	someRuns(6000, 8, check)
	for _, stack := range someStacks() {
		check(nil, stack, atCoin)
		check([]impl.Op{{Code: 13}}, stack, atCoin)
	}
}

func TestRunsDoNotHangOnEarlierOnes(t *testing.T) {
	// Runs that ended early, in the midst of conditions, leave nothing behind for the next one.
	for _, text := range []string{"x01 if x verify end", "x if drop else drop end", "x01 if x01 if after:9999 end end", "x01 if x01 if x01 if x01 if drop end end end end", "x if else x01 if else x verify end end", "dup", strings.TrimSpace(strings.Repeat("x ", 25))} {
		for _, env := range someEnvs {
			ops := mustParse(t, text)
			impl.RunScript(ops, nil, env)
			impl.Unlock(scriptBytesOf(ops), nil, env)
			leaves(t, "if xaa else xbb end", []string{"z"}, atCoin, "\xaa")
			leaves(t, "x", nil, atCoin, "")
			fails(t, "x verify", []string{"z"}, atCoin, impl.RunFalse)
			leaves(t, "", nil, impl.Env{})
		}
	}
}

func TestRunsBesideEachOther(t *testing.T) {
	results := make(chan bool)
	for worker := range 8 {
		go func() {
			right := true
			someRuns(500, int64(worker), func(ops []impl.Op, stack []string, env impl.Env) {
				want, wantCode := ran(ops, stack, env)
				got, code := impl.RunScript(ops, stack, env)
				right = right && code == wantCode && slices.Equal(got, want)
			})
			results <- right
		}()
	}
	for range 8 {
		if !<-results {
			t.Errorf("runs beside each other change one another")
		}
	}
}
