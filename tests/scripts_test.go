package tests

import (
	"encoding/hex"
	"fmt"
	"math"
	"math/rand"
	"regexp"
	"slices"
	"strings"
	"testing"

	"loop.example/workchain/impl"
)

// plainWords are the words of the operations that use no fields, by their codes.
var plainWords = map[int]string{1: "dup", 2: "drop", 3: "swap", 4: "equal", 5: "not", 6: "if", 7: "else", 8: "end", 9: "verify", 10: "digest", 11: "sign"}

// wordForm is how the words of scripts look. It does not tell how long a pushed text may be, and which number of many must not be the greater one.
var wordForm = regexp.MustCompile(`^(?:x(?:[0-9a-f][0-9a-f])*|dup|drop|swap|equal|not|if|else|end|verify|digest|sign|many:[1-5]:[1-5]|after:(?:0|[1-9][0-9]{0,3})|older:[1-9][0-9]?)$`)

// noCodes are numbers that are no codes of operations; the lowest byte of some of them is one.
var noCodes = []int{-1, -2, -14, -15, -256, -255, -245, math.MinInt, math.MinInt + 1, 15, 16, 17, 100, 127, 128, 254, 255, 256, 257, 258, 267, 268, 269, 270, 65536, 65537, 1 << 32, 1<<32 + 1, 1<<40 + 13, math.MaxInt}

// fixedScripts were written by hand.
var fixedScripts = []struct {
	ops   []impl.Op
	text  string
	bytes string
}{
	{nil, "", ""},
	{[]impl.Op{{Code: 0}}, "x", "\x00\x00"},
	{[]impl.Op{{Code: 0, Text: "\x0b"}, {Code: 1}, {Code: 4}}, "x0b dup equal", "\x00\x01\x0b\x01\x04"},
	{[]impl.Op{{Code: 0, Text: "a b:c"}}, "x6120623a63", "\x00\x05a b:c"},
	{[]impl.Op{{Code: 0, Text: "\xff\x80\x00"}, {Code: 0}, {Code: 2}}, "xff8000 x drop", "\x00\x03\xff\x80\x00\x00\x00\x02"},
	{
		[]impl.Op{{Code: 1}, {Code: 2}, {Code: 3}, {Code: 4}, {Code: 5}, {Code: 6}, {Code: 7}, {Code: 8}, {Code: 9}, {Code: 10}, {Code: 11}},
		"dup drop swap equal not if else end verify digest sign", "\x01\x02\x03\x04\x05\x06\x07\x08\x09\x0a\x0b",
	},
	{[]impl.Op{{Code: 12, A: 1, B: 1}}, "many:1:1", "\x0c\x01\x01"},
	{[]impl.Op{{Code: 12, A: 2, B: 3}, {Code: 9}}, "many:2:3 verify", "\x0c\x02\x03\x09"},
	{[]impl.Op{{Code: 12, A: 1, B: 5}, {Code: 12, A: 5, B: 5}}, "many:1:5 many:5:5", "\x0c\x01\x05\x0c\x05\x05"},
	{[]impl.Op{{Code: 13}}, "after:0", "\x0d\x00"},
	{[]impl.Op{{Code: 13, A: 252}, {Code: 13, A: 253}}, "after:252 after:253", "\x0d\xfc\x0d\xfd\xfd\x00"},
	{[]impl.Op{{Code: 13, A: 256}, {Code: 13, A: 9999}}, "after:256 after:9999", "\x0d\xfd\x00\x01\x0d\xfd\x0f\x27"},
	{[]impl.Op{{Code: 14, A: 1}, {Code: 14, A: 99}}, "older:1 older:99", "\x0e\x01\x0e\x63"},
	{
		[]impl.Op{{Code: 0, Text: "\x00\x40\x00\x00"}, {Code: 0, Text: "\x00\x08\xa0\x00"}, {Code: 12, A: 1, B: 2}},
		"x00400000 x0008a000 many:1:2", "\x00\x04\x00\x40\x00\x00\x00\x04\x00\x08\xa0\x00\x0c\x01\x02",
	},
	{
		[]impl.Op{
			{Code: 6}, {Code: 10}, {Code: 0, Text: "\x3a\x6b\x53\x9e"}, {Code: 4}, {Code: 9}, {Code: 0, Text: "\x00\x40\x00\x00"}, {Code: 11},
			{Code: 7}, {Code: 13, A: 300}, {Code: 0, Text: "\x00\x08\xa0\x00"}, {Code: 11}, {Code: 8},
		},
		"if digest x3a6b539e equal verify x00400000 sign else after:300 x0008a000 sign end",
		"\x06\x0a\x00\x04\x3a\x6b\x53\x9e\x04\x09\x00\x04\x00\x40\x00\x00\x0b\x07\x0d\xfd\x2c\x01\x00\x04\x00\x08\xa0\x00\x0b\x08",
	},
	{
		[]impl.Op{{Code: 6}, {Code: 6}, {Code: 6}, {Code: 6}, {Code: 7}, {Code: 8}, {Code: 8}, {Code: 7}, {Code: 6}, {Code: 8}, {Code: 8}, {Code: 8}},
		"if if if if else end end else if end end end", "\x06\x06\x06\x06\x07\x08\x08\x07\x06\x08\x08\x08",
	},
}

// opIsOk tells by the words of the document whether an operation by itself is one of a script.
func opIsOk(op impl.Op) bool {
	switch op.Code {
	case 0:
		return len(op.Text) <= 80 && op.A == 0 && op.B == 0
	case 12:
		return 1 <= op.A && op.A <= op.B && op.B <= 5 && op.Text == ""
	case 13:
		return 0 <= op.A && op.A <= 9999 && op.B == 0 && op.Text == ""
	case 14:
		return 1 <= op.A && op.A <= 99 && op.B == 0 && op.Text == ""
	}
	return plainWords[op.Code] != "" && op.A == 0 && op.B == 0 && op.Text == ""
}

// behindBranch goes over a branch that stands in so many conditions, and tells what is left behind it; it is false if conditions are nested too deep or not ended.
func behindBranch(codes []int, depth int) ([]int, bool) {
	for len(codes) > 0 && codes[0] != 7 && codes[0] != 8 {
		isCondition := codes[0] == 6
		codes = codes[1:]
		if !isCondition {
			continue
		}
		ok := depth < 4
		if codes, ok = behindCondition(codes, depth+1, ok); !ok {
			return nil, false
		}
	}
	return codes, true
}

// behindCondition goes over what is behind an if, up to its end.
func behindCondition(codes []int, depth int, ok bool) ([]int, bool) {
	if ok {
		codes, ok = behindBranch(codes, depth)
	}
	if ok && len(codes) > 0 && codes[0] == 7 {
		codes, ok = behindBranch(codes[1:], depth)
	}
	if !ok || len(codes) == 0 || codes[0] != 8 {
		return nil, false
	}
	return codes[1:], true
}

// scriptIsOk tells by the words of the document whether operations are a script.
func scriptIsOk(ops []impl.Op) bool {
	var codes []int
	for _, op := range ops {
		if !opIsOk(op) {
			return false
		}
		codes = append(codes, op.Code)
	}
	rest, ok := behindBranch(codes, 0)
	return len(ops) <= 40 && ok && len(rest) == 0
}

// scriptTextOf is the text of a script, written down a second time.
func scriptTextOf(ops []impl.Op) string {
	text := ""
	for _, op := range ops {
		switch op.Code {
		case 0:
			text += fmt.Sprintf(" x%x", op.Text)
		case 12:
			text += fmt.Sprintf(" many:%d:%d", op.A, op.B)
		case 13:
			text += fmt.Sprintf(" after:%d", op.A)
		case 14:
			text += fmt.Sprintf(" older:%d", op.A)
		default:
			text += " " + plainWords[op.Code]
		}
	}
	return strings.TrimPrefix(text, " ")
}

// scriptBytesOf is the bytes of a script, written down a second time.
func scriptBytesOf(ops []impl.Op) string {
	s := ""
	for _, op := range ops {
		s += string([]byte{byte(op.Code)})
		switch op.Code {
		case 0:
			s += numBytes(len(op.Text)) + op.Text
		case 12:
			s += numBytes(op.A) + numBytes(op.B)
		case 13, 14:
			s += numBytes(op.A)
		}
	}
	return s
}

// someItems returns texts that can be pushed: of no bytes, of ItemMax bytes, of each byte, and such as look like texts or bytes of scripts.
func someItems() []string {
	list := []string{"", " ", ":", "x", "0", "dup", "x0b dup equal", "many:1:2", "a b", " : ", "\x00", "\x01\x02", "\x00\x00", "ä", "\x7f\x80", "\xfd\xfd\x00", "\xff\xff", "\n\t\r", "%d%x"}
	for b := range 256 {
		list = append(list, string([]byte{byte(b)}))
	}
	for _, n := range []int{2, 3, 31, 32, 63, 64, 78, 79, 80} {
		list = append(list, strings.Repeat("\xff", n), strings.Repeat("0a", n)[:n], strings.Repeat("\x00", n), strings.Repeat(" ", n))
	}
	return append(list, manyBytes()[:80], manyBytes()[120:200], manyBytes()[176:256])
}

// conditionOps are the operations of conditions: such as no valid script can have alone.
var conditionOps = []impl.Op{{Code: 6}, {Code: 7}, {Code: 8}}

// someOps returns operations that are valid by themselves, without those of conditions.
func someOps() []impl.Op {
	var list []impl.Op
	for code := range plainWords {
		if code < 6 || code > 8 {
			list = append(list, impl.Op{Code: code})
		}
	}
	slices.SortFunc(list, func(a impl.Op, b impl.Op) int { return a.Code - b.Code })
	for b := 1; b <= 5; b++ {
		for a := 1; a <= b; a++ {
			list = append(list, impl.Op{Code: 12, A: a, B: b})
		}
	}
	for _, a := range []int{0, 1, 2, 9, 10, 11, 99, 100, 101, 127, 128, 251, 252, 253, 254, 255, 256, 257, 300, 511, 512, 999, 1000, 1001, 4096, 9989, 9990, 9998, 9999} {
		list = append(list, impl.Op{Code: 13, A: a})
	}
	for a := 1; a <= 99; a++ {
		list = append(list, impl.Op{Code: 14, A: a})
	}
	for _, text := range someItems() {
		list = append(list, impl.Op{Code: 0, Text: text})
	}
	return list
}

// wrongOps returns operations that no script has.
func wrongOps() []impl.Op {
	var list []impl.Op
	for _, op := range append(someOps()[:60:60], append(conditionOps[:3:3], impl.Op{Code: 0}, impl.Op{Code: 0, Text: "a"}, impl.Op{Code: 14, A: 99})...) {
		list = append(list, withOtherFields(op)...)
	}
	for _, code := range noCodes {
		list = append(list, impl.Op{Code: code}, impl.Op{Code: code, A: 1}, impl.Op{Code: code, A: 1, B: 2}, impl.Op{Code: code, Text: "a"})
	}
	for _, n := range []int{81, 82, 100, 160, 253, 336, 4000, 4001} {
		list = append(list, impl.Op{Code: 0, Text: strings.Repeat("\x00", n)}, impl.Op{Code: 0, Text: strings.Repeat("ab", n)[:n]})
	}
	for _, far := range []int{-1, -2, -256, math.MinInt, 10000, 10001, 65536, 1 << 16, 1 << 32, 1<<32 + 1, impl.NumTop, impl.NumTop + 1, math.MaxInt} {
		list = append(list, impl.Op{Code: 13, A: far}, impl.Op{Code: 14, A: far})
		list = append(list, impl.Op{Code: 12, A: far, B: 5}, impl.Op{Code: 12, A: 1, B: far}, impl.Op{Code: 12, A: far, B: far})
	}
	for _, a := range []int{0, 100, 101, 253, 256, 257, 9999} {
		list = append(list, impl.Op{Code: 14, A: a})
	}
	for a := -2; a < 9; a++ {
		for b := -2; b < 9; b++ {
			list = append(list, impl.Op{Code: 12, A: a, B: b})
		}
	}
	return slices.DeleteFunc(list, opIsOk)
}

// withOtherFields returns an operation with each field that it does not use set to something else.
func withOtherFields(op impl.Op) []impl.Op {
	var list []impl.Op
	for _, n := range []int{1, -1, 2, 5, 256, 1 << 32, math.MinInt, math.MaxInt} {
		if op.Code < 12 {
			list = append(list, impl.Op{Code: op.Code, A: n, Text: op.Text})
		}
		if op.Code != 12 {
			list = append(list, impl.Op{Code: op.Code, A: op.A, B: n, Text: op.Text})
		}
	}
	for _, text := range []string{"a", "\x00", " ", "", strings.Repeat("a", 80)} {
		if op.Code != 0 && text != "" {
			list = append(list, impl.Op{Code: op.Code, A: op.A, B: op.B, Text: text})
		}
	}
	return list
}

// around returns lists in which an operation stands alone, ahead of others, behind them, and in both branches of a condition.
func around(op impl.Op) [][]impl.Op {
	dup := impl.Op{Code: 1}
	condition, other, end := conditionOps[0], conditionOps[1], conditionOps[2]
	return [][]impl.Op{
		{op}, {op, dup}, {dup, op}, {dup, op, dup}, {op, op},
		{condition, op, end}, {condition, other, op, end}, {condition, op, other, op, end}, {condition, end, op}, {op, condition, end},
	}
}

// opsOf returns the operations of words that use no fields.
func opsOf(words string) []impl.Op {
	var list []impl.Op
	for _, word := range strings.Fields(words) {
		for code, plain := range plainWords {
			if plain == word {
				list = append(list, impl.Op{Code: code})
			}
		}
	}
	return list
}

// nested are so many conditions, each in the first branch of the one before, or in the other one.
func nested(n int, between string) string {
	return strings.Repeat("if "+between+" ", n) + strings.Repeat("end ", n)
}

// wholeConditions are words of scripts in which all conditions are as they must be.
var wholeConditions = []string{
	"if end", "if else end", "dup if end dup", "if dup else drop end", "if end if end", "if else end if else end",
	"if if end end", "if else if end end", "if if end else if end end", "if if else end else if else end end", "if if else end end if end",
	nested(2, ""), nested(3, ""), nested(4, ""), nested(4, "else"), nested(4, "dup else not"), nested(4, "") + nested(4, "else") + nested(4, ""),
	"if " + nested(3, "") + "else " + nested(3, "else") + "end", "if " + nested(3, "") + nested(3, "") + "else " + nested(3, "") + nested(3, "else") + "end",
	strings.Repeat("if end ", 20), strings.Repeat("if else end ", 13), "if " + strings.Repeat("if else end ", 12) + "else end", "if " + strings.Repeat("dup ", 37) + "else end",
}

// brokenConditions are words of lists in which a condition is not as it must be.
var brokenConditions = []string{
	"if", "else", "end", "if if", "if else", "else end", "end if", "end else", "else if", "else if end", "if end end", "if end else", "if end else end",
	"if else else end", "if else dup else end", "if else else else end", "if if end", "if if end else", "if if else end", "if if else end else", "if if else else end end",
	"if else if else else end end", "if else if end else end", "if if end else else end", "if else if else end else end", "dup if", "if dup", "dup end", "if dup else dup", "dup else dup",
	"if end if", "if end end if", "if else end end", "if else end else end", "if end if else", "else else end end", "if end dup else dup end", "end end if if",
	nested(4, "")[3:], nested(4, "") + "end", "if " + nested(4, ""), nested(4, "") + "else", nested(4, "else") + "if",
	nested(5, ""), nested(5, "else"), nested(6, ""), nested(20, ""), nested(5, "dup"), nested(4, "") + nested(5, ""), nested(5, "") + nested(4, ""),
	"if " + nested(4, "") + "end", "if else " + nested(4, "") + "end", "if " + nested(3, "") + "else " + nested(4, "") + "end", "if " + nested(3, "else") + nested(4, "else") + "end",
	"if end " + nested(5, "else"), "if else " + nested(4, "else") + "end",
}

// randomScript returns a script of at most so many operations, whose conditions are nested at most so deep.
func randomScript(r *rand.Rand, ops []impl.Op, room int, deep int) []impl.Op {
	var list []impl.Op
	for len(list) < room && r.Intn(12) != 0 {
		left := room - len(list)
		if deep == 0 || left < 3 || r.Intn(3) != 0 {
			list = append(list, ops[r.Intn(len(ops))])
			continue
		}
		first := randomScript(r, ops, left-3, deep-1)
		list = append(append(list, conditionOps[0]), first...)
		if r.Intn(3) != 0 {
			other := randomScript(r, ops, left-3-len(first), deep-1)
			list = append(append(list, conditionOps[1]), other...)
		}
		list = append(list, conditionOps[2])
	}
	return list
}

// someScripts returns scripts: the fixed ones, each operation alone and among others, conditions of all kinds, scripts of OpsMax operations, and any.
func someScripts() [][]impl.Op {
	list := [][]impl.Op{nil, {}}
	for _, c := range fixedScripts {
		list = append(list, c.ops)
	}
	ops := someOps()
	for i, op := range ops {
		list = append(list, []impl.Op{op}, []impl.Op{op, ops[i*7%len(ops)]})
		if i%9 == 0 {
			list = append(list, around(op)...)
			list = append(list, slices.Repeat([]impl.Op{op}, 40), slices.Repeat([]impl.Op{op}, 39))
		}
	}
	for _, words := range wholeConditions {
		list = append(list, opsOf(words))
	}
	r := rand.New(rand.NewSource(10))
	for range 1500 {
		list = append(list, randomScript(r, ops, 40, 4))
	}
	return list
}

// fewScripts returns so many of the scripts of someScripts, from its beginning to its end.
func fewScripts(n int) [][]impl.Op {
	all := someScripts()
	list := make([][]impl.Op, n)
	for i := range list {
		list[i] = all[i*len(all)/n]
	}
	return list
}

// noScripts returns lists of operations that are no scripts.
func noScripts() [][]impl.Op {
	var list [][]impl.Op
	for _, op := range wrongOps() {
		list = append(list, around(op)...)
	}
	for _, words := range brokenConditions {
		list = append(list, opsOf(words))
	}
	for _, op := range append(someOps()[:20:20], impl.Op{}, impl.Op{Code: 0, Text: "a"}) {
		for _, n := range []int{41, 42, 80, 256, 296} {
			list = append(list, slices.Repeat([]impl.Op{op}, n))
		}
	}
	return append(list, opsOf(strings.Repeat("if end ", 21)), opsOf("if "+strings.Repeat("dup ", 38)+"else end"), opsOf(strings.Repeat("if else end ", 14)))
}

func mustScriptText(t *testing.T, ops []impl.Op) string {
	t.Helper()
	s, ok := impl.ScriptText(ops)
	if !ok {
		t.Fatalf("ScriptText(%#v) is false", ops)
	}
	return s
}

func mustScriptBytes(t *testing.T, ops []impl.Op) string {
	t.Helper()
	s, ok := impl.ScriptBytes(ops)
	if !ok {
		t.Fatalf("ScriptBytes(%#v) is false", ops)
	}
	return s
}

func mustParse(t *testing.T, s string) []impl.Op {
	t.Helper()
	ops, ok := impl.ScriptParse(s)
	if !ok {
		t.Fatalf("ScriptParse(%q) is false", s)
	}
	return ops
}

func mustRead(t *testing.T, s string) []impl.Op {
	t.Helper()
	ops, ok := impl.ScriptRead(s)
	if !ok {
		t.Fatalf("ScriptRead(%x) is false", s)
	}
	return ops
}

// refusesScript tells where a list that is no script is taken for one, or has a text or bytes.
func refusesScript(t *testing.T, ops []impl.Op) {
	t.Helper()
	if impl.ScriptOk(ops) {
		t.Errorf("ScriptOk(%#v) holds", ops)
	}
	if s, ok := impl.ScriptText(ops); ok || s != "" {
		t.Errorf("ScriptText(%#v) is %q, %t", ops, s, ok)
	}
	if s, ok := impl.ScriptBytes(ops); ok || s != "" {
		t.Errorf("ScriptBytes(%#v) is %x, %t", ops, s, ok)
	}
}

// refusesToParse tells where ScriptParse is not false and no operations.
func refusesToParse(t *testing.T, s string) {
	t.Helper()
	if ops, ok := impl.ScriptParse(s); ok || len(ops) != 0 {
		t.Errorf("ScriptParse(%q) is %#v, %t", s, ops, ok)
	}
}

// refusesToReadScript tells where ScriptRead is not false and no operations.
func refusesToReadScript(t *testing.T, s string) {
	t.Helper()
	if ops, ok := impl.ScriptRead(s); ok || len(ops) != 0 {
		t.Errorf("ScriptRead(%x) is %#v, %t", s, ops, ok)
	}
}

func TestScriptConstants(t *testing.T) {
	if impl.OpsMax != 40 || impl.ItemMax != 80 || impl.NestMax != 4 || impl.HeightMax != 9999 || impl.AgeMax != 99 {
		t.Errorf("the limits are %d, %d, %d, %d, %d", impl.OpsMax, impl.ItemMax, impl.NestMax, impl.HeightMax, impl.AgeMax)
	}
	for want, code := range []int{
		impl.OpPush, impl.OpDup, impl.OpDrop, impl.OpSwap, impl.OpEqual, impl.OpNot, impl.OpIf, impl.OpElse, impl.OpEnd,
		impl.OpVerify, impl.OpDigest, impl.OpSign, impl.OpMany, impl.OpAfter, impl.OpOlder,
	} {
		if code != want {
			t.Errorf("the code of %d is %d", want, code)
		}
	}
}

func TestScriptsOfTheTable(t *testing.T) {
	for _, c := range fixedScripts {
		if !impl.ScriptOk(c.ops) {
			t.Errorf("ScriptOk(%#v) does not hold", c.ops)
		}
		if s := mustScriptText(t, c.ops); s != c.text {
			t.Errorf("ScriptText(%#v) is %q, want %q", c.ops, s, c.text)
		}
		if ops := mustParse(t, c.text); !slices.Equal(ops, c.ops) {
			t.Errorf("ScriptParse(%q) is %#v, want %#v", c.text, ops, c.ops)
		}
		if s := mustScriptBytes(t, c.ops); s != c.bytes {
			t.Errorf("ScriptBytes(%#v) is %x, want %x", c.ops, s, c.bytes)
		}
		if ops := mustRead(t, c.bytes); !slices.Equal(ops, c.ops) {
			t.Errorf("ScriptRead(%x) is %#v, want %#v", c.bytes, ops, c.ops)
		}
	}
}

func TestTheEmptyScript(t *testing.T) {
	for _, ops := range [][]impl.Op{nil, {}} {
		if s, ok := impl.ScriptText(ops); !impl.ScriptOk(ops) || !ok || s != "" {
			t.Errorf("ScriptText of the empty script is %q, %t", s, ok)
		}
		if s, ok := impl.ScriptBytes(ops); !ok || s != "" {
			t.Errorf("ScriptBytes of the empty script is %x, %t", s, ok)
		}
	}
	if ops, ok := impl.ScriptParse(""); !ok || len(ops) != 0 {
		t.Errorf("ScriptParse of no text is %#v, %t", ops, ok)
	}
	if ops, ok := impl.ScriptRead(""); !ok || len(ops) != 0 {
		t.Errorf("ScriptRead of no bytes is %#v, %t", ops, ok)
	}
}

func TestScriptOkOfEachOperation(t *testing.T) {
	for _, op := range someOps() {
		for _, ops := range around(op) {
			if !impl.ScriptOk(ops) {
				t.Errorf("ScriptOk(%#v) does not hold", ops)
			}
		}
	}
	for code := -300; code < 600; code++ {
		alone := []impl.Op{{Code: code}}
		want := code >= 0 && code <= 5 || code >= 9 && code <= 11 || code == 13
		if impl.ScriptOk(alone) != want {
			t.Errorf("ScriptOk of the code %d is %t", code, !want)
		}
	}
}

func TestScriptOkOfTheNumberOfOperations(t *testing.T) {
	for _, op := range append(someOps()[:30:30], impl.Op{}, impl.Op{Code: 0, Text: strings.Repeat("a", 80)}) {
		for n := range 100 {
			if impl.ScriptOk(slices.Repeat([]impl.Op{op}, n)) != (n <= 40) {
				t.Errorf("ScriptOk of %d operations %#v is %t", n, op, n > 40)
			}
		}
	}
}

func TestScriptOkOfPushedTexts(t *testing.T) {
	for n := range 400 {
		for _, text := range []string{strings.Repeat("a", n), strings.Repeat("\x00", n), strings.Repeat("ä", n)[:n]} {
			if impl.ScriptOk([]impl.Op{{Code: 0, Text: text}}) != (n <= 80) {
				t.Errorf("ScriptOk of a pushed text of %d bytes is %t", n, n > 80)
			}
		}
	}
	// The length is counted in bytes, not in characters.
	if impl.ScriptOk([]impl.Op{{Code: 0, Text: strings.Repeat("ä", 41)}}) || !impl.ScriptOk([]impl.Op{{Code: 0, Text: strings.Repeat("ä", 40)}}) {
		t.Errorf("ScriptOk does not count bytes")
	}
}

func TestScriptOkOfNumbers(t *testing.T) {
	for a := -20; a < 20; a++ {
		for b := -20; b < 20; b++ {
			if want := 1 <= a && a <= b && b <= 5; impl.ScriptOk([]impl.Op{{Code: 12, A: a, B: b}}) != want {
				t.Errorf("ScriptOk of %d of %d keys is %t", a, b, !want)
			}
		}
	}
	for a := -300; a < 11000; a++ {
		if want := 0 <= a && a <= 9999; impl.ScriptOk([]impl.Op{{Code: 13, A: a}}) != want {
			t.Errorf("ScriptOk of the height %d is %t", a, !want)
		}
		if want := 1 <= a && a <= 99; impl.ScriptOk([]impl.Op{{Code: 14, A: a}}) != want {
			t.Errorf("ScriptOk of the age %d is %t", a, !want)
		}
	}
}

func TestScriptOkOfConditions(t *testing.T) {
	for _, words := range wholeConditions {
		if ops := opsOf(words); !scriptIsOk(ops) || !impl.ScriptOk(ops) {
			t.Errorf("ScriptOk does not hold of %q", words)
		}
	}
	for _, words := range brokenConditions {
		if ops := opsOf(words); scriptIsOk(ops) || impl.ScriptOk(ops) {
			t.Errorf("ScriptOk holds of %q", words)
		}
	}
}

// sequences are all lists of so many operations out of the given ones.
func sequences(ops []impl.Op, n int) [][]impl.Op {
	list := [][]impl.Op{nil}
	for range n {
		var longer [][]impl.Op
		for _, first := range list {
			for _, op := range ops {
				longer = append(longer, append(slices.Clone(first), op))
			}
		}
		list = longer
	}
	return list
}

func TestScriptOkOfAllConditions(t *testing.T) {
	whole := 0
	for n := range 11 {
		for _, ops := range sequences(conditionOps, n) {
			want := scriptIsOk(ops)
			if impl.ScriptOk(ops) != want {
				t.Fatalf("ScriptOk(%#v) is %t", ops, !want)
			}
			if want {
				whole++
			}
		}
	}
	if whole < 100 {
		t.Errorf("only %d lists have whole conditions", whole)
	}
	for n := range 7 {
		for _, ops := range sequences(append(conditionOps[:3:3], impl.Op{Code: 1}, impl.Op{}), n) {
			if want := scriptIsOk(ops); impl.ScriptOk(ops) != want {
				t.Fatalf("ScriptOk(%#v) is %t", ops, !want)
			}
		}
	}
}

func TestP55TextsAndBytesOfScripts(t *testing.T) {
	for _, ops := range someScripts() {
		if !scriptIsOk(ops) || !impl.ScriptOk(ops) {
			t.Fatalf("ScriptOk(%#v) does not hold", ops)
		}
		if got, want := mustScriptText(t, ops), scriptTextOf(ops); got != want {
			t.Errorf("ScriptText(%#v) is %q, want %q", ops, got, want)
		}
		if got, want := mustScriptBytes(t, ops), scriptBytesOf(ops); got != want {
			t.Errorf("ScriptBytes(%#v) is %x, want %x", ops, got, want)
		}
	}
}

func TestP55NoTextsAndBytesOfOtherLists(t *testing.T) {
	for _, ops := range noScripts() {
		if scriptIsOk(ops) {
			t.Fatalf("%#v is a script", ops)
		}
		refusesScript(t, ops)
	}
}

func TestP55OneWrongOperationOfAScript(t *testing.T) {
	wrong := wrongOps()
	for i, ops := range someScripts() {
		for at := range ops {
			other := slices.Clone(ops)
			other[at] = wrong[(i+at)%len(wrong)]
			refusesScript(t, other)
		}
	}
}

func TestP55AllNumbers(t *testing.T) {
	for a := range 10000 {
		ops := []impl.Op{{Code: 13, A: a}}
		if got, want := mustScriptText(t, ops), scriptTextOf(ops); got != want {
			t.Errorf("ScriptText(%#v) is %q, want %q", ops, got, want)
		}
		if got, want := mustScriptBytes(t, ops), scriptBytesOf(ops); got != want {
			t.Errorf("ScriptBytes(%#v) is %x, want %x", ops, got, want)
		}
	}
}

func TestP56ScriptParseOfScriptText(t *testing.T) {
	for _, ops := range someScripts() {
		if got := mustParse(t, mustScriptText(t, ops)); !slices.Equal(got, ops) {
			t.Errorf("ScriptParse of ScriptText(%#v) is %#v", ops, got)
		}
	}
	for a := range 10000 {
		ops := []impl.Op{{Code: 13, A: a}}
		if got := mustParse(t, mustScriptText(t, ops)); !slices.Equal(got, ops) {
			t.Errorf("ScriptParse of ScriptText(%#v) is %#v", ops, got)
		}
	}
}

// parseIsRight tells where a string is not parsed as the document tells, and whether it is the text of a script.
func parseIsRight(t *testing.T, s string) bool {
	t.Helper()
	ops, ok := impl.ScriptParse(s)
	if !ok {
		refusesToParse(t, s)
		return false
	}
	if !scriptIsOk(ops) || scriptTextOf(ops) != s {
		t.Errorf("ScriptParse(%q) is %#v", s, ops)
	}
	if again := mustScriptText(t, ops); again != s {
		t.Errorf("ScriptText of ScriptParse(%q) is %q", s, again)
	}
	return true
}

// isOneWord tells by the words of the document whether a string is the text of a script of one operation.
func isOneWord(s string) bool {
	if !wordForm.MatchString(s) || s == "if" || s == "else" || s == "end" {
		return false
	}
	if strings.HasPrefix(s, "many:") {
		return s[5] <= s[7]
	}
	return s[0] != 'x' || len(s) <= 161
}

func TestP57ScriptTextOfScriptParse(t *testing.T) {
	for _, ops := range someScripts() {
		if s := scriptTextOf(ops); !parseIsRight(t, s) {
			t.Errorf("ScriptParse(%q) is false", s)
		}
	}
}

func TestP57TextsOneByteAway(t *testing.T) {
	taken, not := 0, 0
	for _, op := range append(someOps()[:120:120], impl.Op{Code: 0, Text: "\xab\x9f"}, impl.Op{Code: 0, Text: "\x00"}) {
		s := scriptTextOf([]impl.Op{op})
		for _, other := range oneByteAway(s) {
			if other != "" && !strings.Contains(other, " ") && isOneWord(other) != parseIsRight(t, other) {
				t.Errorf("ScriptParse(%q) is %t", other, !isOneWord(other))
			}
			if parseIsRight(t, other) {
				taken++
			} else {
				not++
			}
		}
	}
	if taken < 1000 || not < 1000 {
		t.Errorf("%d texts of %d are taken", taken, taken+not)
	}
}

// oneByteAway are the strings that lack a byte of a string, have another one in its place, or have one more.
func oneByteAway(s string) []string {
	var list []string
	for i := range len(s) + 1 {
		for _, b := range []byte("x0123456789afgAFX: -+_.dupe\t\n\x00\x80\xff") {
			list = append(list, s[:i]+string([]byte{b})+s[i:])
			if i < len(s) {
				list = append(list, changed(s, i, b))
			}
		}
		if i < len(s) {
			list = append(list, s[:i]+s[i+1:])
		}
	}
	return list
}

func TestP57TextsOfLongerScriptsOneByteAway(t *testing.T) {
	for _, c := range fixedScripts {
		for _, s := range oneByteAway(c.text) {
			parseIsRight(t, s)
		}
	}
}

func TestScriptParseRefusesOtherWords(t *testing.T) {
	for _, s := range []string{
		"x0", "x000", "x0b0", "xg0", "x0g", "x0B", "xAB", "xaB", "xAb", "xFF", "X", "X0b", "XFF", "0b", "00", "x-0", "x+1", "x0x", "xx", "xx0", "x0x0", "x:", "x:00", "x:0b", "x00:", "x00:1", "x\x00\x00", "xä", "xé0",
		"dup:", "dup:1", "dup:0", "dup::", "dup0", "dup1", "dupx", "dupdup", "du", "dups", "d", "DUP", "Dup", "duP", ":dup", "dup\x00", "\x00dup", "dup\n", "dup\t", "\tdup", "dup.", "dup,", "dupä", "du\x80p",
		"drop:", "drop:1", "drops", "DROP", "swap:", "swap:1:2", "swaps", "equals", "equal:", "equal:1", "EQUAL", "nothing", "not:", "no", "Not",
		"verify:", "verify:1", "verified", "digest:", "digest:00", "digests", "sign:", "sign:1", "signs", "sig", "Sign",
		"push", "push:", "push:00", "push00", "op", "nop", "true", "false", "return", "and", "or", "add", "hash", "key", "lock", "OpDup", "opdup", "xor", "height", "age", "0", "1", "-1", "13:1", "12:1:2", ":", "::", "-", "_", ".", "\x00", "\xff", "ä",
		"if:", "if:1", "else:", "end:", "If", "IF", "endif", "elseif", "ifelse",
	} {
		refusesToParse(t, s)
		refusesToParse(t, "dup "+s)
		refusesToParse(t, s+" dup")
		refusesToParse(t, "if "+s+" end")
		refusesToParse(t, "if else "+s+" end")
	}
	for code := range 15 {
		refusesToParse(t, fmt.Sprint(code))
		refusesToParse(t, string([]byte{byte(code)}))
	}
}

func TestScriptParseRefusesOtherNumbers(t *testing.T) {
	for _, s := range []string{
		"many", "many:", "many::", "many:1", "many:1:", "many::1", "many:1:1:", "many:1:1:1", "many::1:1", "many:1::1", "many:1:2:3", "manys:1:1", "many1:1", "many:11", "many 1 1", "many:1 1", "many:1: 1", "Many:1:1", "MANY:1:1", "many:1,1", "many:1/1", "many;1;1",
		"many:01:1", "many:1:01", "many:00:1", "many:1:05", "many:+1:1", "many:1:+1", "many:-1:1", "many:1:-1", "many:-0:1", "many:0:0", "many:0:1", "many:0:5", "many:1:0", "many:2:1", "many:5:4", "many:5:1", "many:1:6", "many:6:6", "many:5:6", "many:1:10", "many:10:10",
		"many:a:b", "many:x1:1", "many:1:x5", "many:1:5x", "many:1.0:2", "many:1e0:2", "many:18446744073709551617:2", "many:1:18446744073709551618", "many:4294967297:2", "many:1:٢", "many:\x001:1", "many:1:257", "many:257:257", "many:x:x",
		"after", "after:", "after::", "after:1:", "after::1", "after:1:1", "after:0:0", "after1", "after0", "after 1", "after=1", "After:1", "AFTER:1", "afters:1", "after:x", "after:x01", "after:0x1", "after:1x", "after:a", "after:f", "after:1a",
		"after:00", "after:01", "after:000", "after:0001", "after:09999", "after:-0", "after:+0", "after:+1", "after:-1", "after:--1", "after:-9999", "after:10000", "after:10001", "after:65536", "after:99999", "after:4294967296", "after:4294967297", "after:9223372036854775807",
		"after:9223372036854775808", "after:18446744073709551616", "after:18446744073709551617", "after:-18446744073709551615", "after:" + strings.Repeat("9", 100), "after:" + strings.Repeat("0", 100), "after:" + strings.Repeat("0", 100) + "1",
		"after:1_0", "after:1_000", "after:1,000", "after:1.0", "after:1.", "after:.1", "after:1e3", "after:0b1", "after:0o7", "after:07", "after:٣", "after:１", "after:1\x00", "after:\x001", "after:1\n", "after:\t1", "after:NaN", "after:inf",
		"older", "older:", "older::", "older:1:", "older::1", "older:1:1", "older:9:0", "older1", "older 1", "Older:1", "OLDER:1", "old:1", "olders:1", "older:x", "older:0x1", "older:a",
		"older:0", "older:00", "older:01", "older:001", "older:-0", "older:+1", "older:-1", "older:-99", "older:100", "older:101", "older:099", "older:256", "older:257", "older:1000", "older:4294967297", "older:18446744073709551617", "older:1.0", "older:1_0", "older:1e1", "older:٣", "older:9\n",
	} {
		refusesToParse(t, s)
		refusesToParse(t, "dup "+s)
		refusesToParse(t, s+" dup")
		refusesToParse(t, "if "+s+" end")
	}
}

func TestScriptParseOfAllNumbers(t *testing.T) {
	for n := -20; n < 12000; n++ {
		for _, form := range []string{"after:%d", "older:%d", "after:%05d", "older:%03d", "after:%+d", "older:%+d", "many:1:%d", "many:%d:5", "after:%x", "older: %d"} {
			s := fmt.Sprintf(form, n)
			if want := isOneWord(s); parseIsRight(t, s) != want {
				t.Errorf("ScriptParse(%q) is %t", s, !want)
			}
		}
	}
}

func TestScriptParseTakesSingleBlanks(t *testing.T) {
	for _, ops := range fewScripts(700) {
		s := scriptTextOf(ops)
		for _, more := range []string{" ", "  ", "\t", "\n", "\r\n", "\x00", "\u00a0", ",", ";"} {
			refusesToParse(t, more+s)
			refusesToParse(t, s+more)
			if strings.Contains(s, " ") {
				refusesToParse(t, strings.Replace(s, " ", " "+more, 1))
				refusesToParse(t, strings.Replace(s, " ", more+" ", 1))
				refusesToParse(t, strings.ReplaceAll(s, " ", more+" "))
			}
			if more != " " && strings.Contains(s, " ") {
				refusesToParse(t, strings.Replace(s, " ", more, 1))
				refusesToParse(t, strings.ReplaceAll(s, " ", more))
			}
		}
		if upper := strings.ToUpper(s); upper != s {
			refusesToParse(t, upper)
		}
	}
	for n := 1; n < 100; n++ {
		refusesToParse(t, strings.Repeat(" ", n))
		refusesToParse(t, strings.Repeat(" dup", n))
		refusesToParse(t, strings.Repeat("dup ", n))
	}
}

func TestScriptParseRefusesUpperCaseDigits(t *testing.T) {
	for b := range 256 {
		digits := hex.EncodeToString([]byte{byte(b)})
		for _, other := range []string{strings.ToUpper(digits), strings.ToUpper(digits[:1]) + digits[1:], digits[:1] + strings.ToUpper(digits[1:])} {
			if other != digits {
				refusesToParse(t, "x"+other)
				refusesToParse(t, "x00"+other+"00 dup")
			}
		}
		refusesToParse(t, "x"+digits[:1])
		refusesToParse(t, "x"+digits+digits[1:])
		refusesToParse(t, "X"+digits)
	}
}

func TestScriptParseRefusesWhatIsNoScript(t *testing.T) {
	for _, ops := range noScripts() {
		if areWritten(ops) {
			refusesToParse(t, scriptTextOf(ops))
		}
	}
	for n := range 100 {
		if s := strings.TrimSpace(strings.Repeat("dup ", n)); parseIsRight(t, s) != (n <= 40) {
			t.Errorf("ScriptParse of %d words is %t", n, n > 40)
		}
		if s := strings.TrimSpace(strings.Repeat("x00 ", n)); parseIsRight(t, s) != (n <= 40) {
			t.Errorf("ScriptParse of %d words is %t", n, n > 40)
		}
		if s := "x" + strings.Repeat("0a", n); parseIsRight(t, s) != (n <= 80) {
			t.Errorf("ScriptParse of %d pushed bytes is %t", n, n > 80)
		}
	}
	for _, words := range brokenConditions {
		refusesToParse(t, strings.TrimSpace(strings.ReplaceAll(words, "  ", " ")))
	}
	refusesToParse(t, strings.Repeat("dup ", 1000000))
	refusesToParse(t, strings.Repeat(" ", 1000000))
	refusesToParse(t, strings.Repeat(":", 1000000))
	refusesToParse(t, "x"+strings.Repeat("00", 1000000))
	refusesToParse(t, "after:"+strings.Repeat("1", 1000000))
}

// areWritten tells whether scriptTextOf and scriptBytesOf write all that operations have, be they a script or not.
func areWritten(ops []impl.Op) bool {
	for _, op := range ops {
		var used impl.Op
		switch op.Code {
		case 0:
			used = impl.Op{Code: 0, Text: op.Text}
		case 12:
			used = impl.Op{Code: 12, A: op.A, B: op.B}
		case 13, 14:
			used = impl.Op{Code: op.Code, A: op.A}
		default:
			used = impl.Op{Code: op.Code}
		}
		if op != used || op.Code < 0 || op.Code > 14 || op.A < 0 || op.A > impl.NumTop || op.B < 0 || op.B > impl.NumTop {
			return false
		}
	}
	return true
}

func TestP58ScriptReadOfScriptBytes(t *testing.T) {
	for _, ops := range someScripts() {
		if got := mustRead(t, mustScriptBytes(t, ops)); !slices.Equal(got, ops) {
			t.Errorf("ScriptRead of ScriptBytes(%#v) is %#v", ops, got)
		}
	}
	for a := range 10000 {
		ops := []impl.Op{{Code: 13, A: a}}
		if got := mustRead(t, mustScriptBytes(t, ops)); !slices.Equal(got, ops) {
			t.Errorf("ScriptRead of ScriptBytes(%#v) is %#v", ops, got)
		}
	}
}

// readIsRight tells where a string is not read as the document tells, and whether it is the bytes of a script.
func readIsRight(t *testing.T, s string) bool {
	t.Helper()
	ops, ok := impl.ScriptRead(s)
	if !ok {
		refusesToReadScript(t, s)
		return false
	}
	if !scriptIsOk(ops) || scriptBytesOf(ops) != s {
		t.Errorf("ScriptRead(%x) is %#v", s, ops)
	}
	if again := mustScriptBytes(t, ops); again != s {
		t.Errorf("ScriptBytes of ScriptRead(%x) is %x", s, again)
	}
	return true
}

func TestP59ScriptBytesOfScriptRead(t *testing.T) {
	for _, ops := range someScripts() {
		if s := scriptBytesOf(ops); !readIsRight(t, s) {
			t.Errorf("ScriptRead(%x) is false", s)
		}
	}
}

func TestP59BytesOneByteAway(t *testing.T) {
	taken, not := 0, 0
	for _, ops := range fewScripts(1200) {
		s := scriptBytesOf(ops)
		if len(s) > 60 {
			continue
		}
		for i := range len(s) + 1 {
			for _, b := range []byte{0, 1, 2, 5, 6, 7, 8, 11, 12, 13, 14, 15, 80, 81, 99, 100, 252, 253, 254, 255} {
				near := []string{s[:i] + string([]byte{b}) + s[i:]}
				if i < len(s) {
					near = append(near, changed(s, i, b), s[:i]+s[i+1:])
				}
				for _, other := range near {
					if readIsRight(t, other) {
						taken++
					} else {
						not++
					}
				}
			}
		}
	}
	if taken < 1000 || not < 1000 {
		t.Errorf("%d strings of %d are taken", taken, taken+not)
	}
}

func TestP59AllShortStrings(t *testing.T) {
	for _, s := range someBytes() {
		readIsRight(t, s)
	}
	for a := range 256 {
		s := string([]byte{byte(a)})
		if want := a >= 1 && a <= 5 || a >= 9 && a <= 11; readIsRight(t, s) != want {
			t.Errorf("ScriptRead(%x) is %t", s, !want)
		}
		for b := range 256 {
			pair := s + string([]byte{byte(b)})
			ops := []impl.Op{{Code: a}, {Code: b}}
			want := scriptIsOk(ops) && a != 0 && b != 0 && a != 13 && b != 13
			want = want || a == 0 && b == 0 || a == 13 && b <= 252 || a == 14 && b >= 1 && b <= 99
			if readIsRight(t, pair) != want {
				t.Errorf("ScriptRead(%x) is %t", pair, !want)
			}
		}
	}
}

func TestScriptReadOfBytesThatEndTooEarly(t *testing.T) {
	for _, op := range someOps() {
		s := scriptBytesOf([]impl.Op{op})
		for n := 1; n < len(s); n++ {
			refusesToReadScript(t, s[:n])
			refusesToReadScript(t, "\x01"+s[:n])
			refusesToReadScript(t, "\x06\x08"+s[:n])
		}
	}
	for _, ops := range fewScripts(1000) {
		s := scriptBytesOf(ops)
		ends := map[int]bool{}
		for i := range len(ops) + 1 {
			ends[len(scriptBytesOf(ops[:i]))] = scriptIsOk(ops[:i])
		}
		for n := range len(s) {
			if readIsRight(t, s[:n]) != ends[n] {
				t.Errorf("ScriptRead(%x) is %t", s[:n], !ends[n])
			}
		}
	}
}

func TestScriptReadOfBytesWithOneBehind(t *testing.T) {
	for _, ops := range fewScripts(1000) {
		s := scriptBytesOf(ops)
		for b := range 256 {
			more := impl.Op{Code: b}
			want := b != 0 && b != 13 && scriptIsOk(append(ops[:len(ops):len(ops)], more))
			if readIsRight(t, s+string([]byte{byte(b)})) != want {
				t.Errorf("ScriptRead(%x and %02x) is %t", s, b, !want)
			}
		}
	}
}

func TestScriptReadRefusesOtherCodes(t *testing.T) {
	for b := 15; b < 256; b++ {
		code := string([]byte{byte(b)})
		for _, s := range []string{code, code + "\x00", code + "\x01", code + "\x01\x01", code + "\x01a", "\x01" + code, code + "\x01", "\x06" + code + "\x08", "\x06\x07" + code + "\x08", "\x00\x01a" + code} {
			refusesToReadScript(t, s)
		}
	}
}

func TestScriptReadRefusesOtherNumbers(t *testing.T) {
	for _, s := range []string{
		"\x0d\xfd\x00\x00", "\x0d\xfd\x05\x00", "\x0d\xfd\xfc\x00", "\x0d\xfe\x05\x00\x00\x00", "\x0d\xfe\xfd\x00\x00\x00", "\x0d\xfe\x0f\x27\x00\x00", "\x0d\xff", "\x0d\xff\x05", "\x0d\xff\x05\x00\x00\x00\x00\x00\x00\x00",
		"\x0d\xfd\x10\x27", "\x0d\xfd\x11\x27", "\x0d\xfd\xff\xff", "\x0d\xfe\x00\x00\x01\x00", "\x0d\xfe\x05\x00\x01\x00", "\x0d\xfe\xff\xff\xff\xff",
		"\x0e\x00", "\x0e\x64", "\x0e\x65", "\x0e\xfc", "\x0e\xfd\x01\x00", "\x0e\xfd\x63\x00", "\x0e\xfd\xfd\x00", "\x0e\xfd\x00\x01", "\x0e\xfd\x01\x01", "\x0e\xfe\x01\x00\x00\x00", "\x0e\xfe\x01\x00\x01\x00", "\x0e\xff\x01",
		"\x0c\x00\x00", "\x0c\x00\x01", "\x0c\x02\x01", "\x0c\x01\x06", "\x0c\x06\x06", "\x0c\x05\x04", "\x0c\xfd\x01\x00\x05", "\x0c\x01\xfd\x05\x00", "\x0c\xfe\x01\x00\x00\x00\x05", "\x0c\x01\xfe\x05\x00\x00\x00", "\x0c\x01\xfd\x01\x01", "\x0c\xfd\x01\x01\x05", "\x0c\xff\x01\x05", "\x0c\x01\xff\x05",
		"\x00\xfd\x00\x00", "\x00\xfd\x01\x00a", "\x00\xfe\x01\x00\x00\x00a", "\x00\xff\x01a", "\x00\x51" + strings.Repeat("a", 81), "\x00\xfc" + strings.Repeat("a", 252), "\x00\xfd\xfd\x00" + strings.Repeat("a", 253), "\x00\xfd\x00\x01" + strings.Repeat("a", 256), "\x00\xfd\xa0\x0f" + strings.Repeat("a", 4000), "\x00\xfd\xa1\x0f" + strings.Repeat("a", 4001),
		"\x00\x01", "\x00\x50" + strings.Repeat("a", 79), "\x00\xfe\xff\xff\xff\xff", "\x00\xfe\xff\xff\xff\x7f",
	} {
		refusesToReadScript(t, s)
		refusesToReadScript(t, "\x01"+s)
		refusesToReadScript(t, "\x06"+s+"\x08")
		refusesToReadScript(t, "\x06\x07"+s+"\x08")
	}
}

func TestScriptReadRefusesWhatIsNoScript(t *testing.T) {
	for _, ops := range noScripts() {
		if areWritten(ops) {
			refusesToReadScript(t, scriptBytesOf(ops))
		}
	}
	for n := range 100 {
		if s := strings.Repeat("\x01", n); readIsRight(t, s) != (n <= 40) {
			t.Errorf("ScriptRead of %d operations is %t", n, n > 40)
		}
		if s := strings.Repeat("\x00\x02ab", n); readIsRight(t, s) != (n <= 40) {
			t.Errorf("ScriptRead of %d operations is %t", n, n > 40)
		}
		if s := "\x00" + string([]byte{byte(n)}) + strings.Repeat("\xff", n); readIsRight(t, s) != (n <= 80) {
			t.Errorf("ScriptRead of %d pushed bytes is %t", n, n > 80)
		}
	}
	for _, words := range brokenConditions {
		refusesToReadScript(t, scriptBytesOf(opsOf(words)))
	}
	refusesToReadScript(t, strings.Repeat("\x01", 1000000))
	refusesToReadScript(t, strings.Repeat("\x00", 1000000))
	refusesToReadScript(t, "\x00\xfe\x40\x42\x0f\x00"+strings.Repeat("a", 1000000))
}

// someSigs returns signatures whose R and S are digests.
func someSigs() []impl.Sig {
	edges := []int{0, 1, 2, 127, 128, 255, 256, 65535, 65536, 1 << 24, 0x01020304, 0x7fffffff, 0x80000000, 0xfffefdfc, impl.GroupOrder - 1, impl.GroupOrder, impl.GroupMod - 1, impl.GroupMod, impl.NumTop - 1, impl.NumTop}
	var list []impl.Sig
	for _, r := range edges {
		for _, s := range edges {
			list = append(list, impl.Sig{R: r, S: s})
		}
	}
	digests := someDigests()
	for i, d := range digests {
		list = append(list, impl.Sig{R: d, S: digests[len(digests)-1-i]})
	}
	return list
}

func TestSigItemTellsTheBytes(t *testing.T) {
	for _, c := range []struct {
		sig  impl.Sig
		want string
	}{
		{impl.Sig{}, "\x00\x00\x00\x00\x00\x00\x00\x00"},
		{impl.Sig{R: 1, S: 2}, "\x00\x00\x00\x01\x00\x00\x00\x02"},
		{impl.Sig{R: 0x01020304, S: 0x05060708}, "\x01\x02\x03\x04\x05\x06\x07\x08"},
		{impl.Sig{R: impl.NumTop}, "\xff\xff\xff\xff\x00\x00\x00\x00"},
		{impl.Sig{S: impl.NumTop}, "\x00\x00\x00\x00\xff\xff\xff\xff"},
		{impl.Sig{R: impl.NumTop, S: impl.NumTop}, "\xff\xff\xff\xff\xff\xff\xff\xff"},
		{impl.Sig{R: 413079814, S: 4937067}, "\x18\x9f\x19\x06\x00\x4b\x55\x6b"},
	} {
		if got := impl.SigItem(c.sig); got != c.want {
			t.Errorf("SigItem(%v) is %x, want %x", c.sig, got, c.want)
		}
		if sig, ok := impl.ItemSig(c.want); !ok || sig != c.sig {
			t.Errorf("ItemSig(%x) is %v, %t, want %v", c.want, sig, ok, c.sig)
		}
	}
	for _, sig := range someSigs() {
		if got, want := impl.SigItem(sig), fourBytes(sig.R)+fourBytes(sig.S); got != want {
			t.Errorf("SigItem(%v) is %x, want %x", sig, got, want)
		}
	}
}

func TestSigItemRefusesWhatIsNoDigest(t *testing.T) {
	for _, d := range noDigests {
		for _, other := range append(someDigests()[:20:20], append(noDigests, 0, 1, impl.NumTop)...) {
			for _, sig := range []impl.Sig{{R: d, S: other}, {R: other, S: d}, {R: d, S: d}} {
				if s := impl.SigItem(sig); s != "" {
					t.Errorf("SigItem(%v) is %x", sig, s)
				}
			}
		}
	}
}

func TestP60ItemSigOfSigItem(t *testing.T) {
	for _, sig := range someSigs() {
		if got, ok := impl.ItemSig(impl.SigItem(sig)); !ok || got != sig {
			t.Errorf("ItemSig of SigItem(%v) is %v, %t", sig, got, ok)
		}
	}
	for _, secret := range signers {
		for _, text := range someMessages() {
			m := mustSign(t, secret, text)
			if got, ok := impl.ItemSig(impl.SigItem(m.Sig)); !ok || got != m.Sig || !impl.Verify(m.Key, text, got) {
				t.Errorf("ItemSig of SigItem(%v) is %v, %t", m.Sig, got, ok)
			}
		}
	}
}

func TestP61SigItemOfItemSig(t *testing.T) {
	list := []string{"12345678", "\x00\x00\x00\x00\x00\x00\x00\x00", "\xff\xff\xff\xff\xff\xff\xff\xff", "        ", "ääää", "\x80\x00\x00\x00\x7f\xff\xff\xff"}
	r := rand.New(rand.NewSource(11))
	for range 2000 {
		s := make([]byte, 8)
		r.Read(s)
		list = append(list, string(s))
	}
	for i := range 8 {
		for b := range 256 {
			list = append(list, changed("\x00\x00\x00\x00\x00\x00\x00\x00", i, byte(b)), changed("\xff\xff\xff\xff\xff\xff\xff\xff", i, byte(b)))
		}
	}
	for _, s := range list {
		sig, ok := impl.ItemSig(s)
		if !ok || fourBytes(sig.R)+fourBytes(sig.S) != s {
			t.Errorf("ItemSig(%x) is %v, %t", s, sig, ok)
		}
		if got := impl.SigItem(sig); got != s {
			t.Errorf("SigItem of ItemSig(%x) is %x", s, got)
		}
	}
}

func TestItemSigRefusesOtherLengths(t *testing.T) {
	for n := range 300 {
		for _, s := range []string{strings.Repeat("\x00", n), strings.Repeat("\xff", n), strings.Repeat("ab", n)[:n]} {
			if sig, ok := impl.ItemSig(s); ok != (n == 8) || n != 8 && sig != (impl.Sig{}) {
				t.Errorf("ItemSig of %d bytes is %v, %t", n, sig, ok)
			}
		}
	}
	// Eight characters may be more bytes than eight.
	for _, s := range []string{"", "ääääääää", "aaaaaaaä", "1234567", "123456789"} {
		if sig, ok := impl.ItemSig(s); ok || sig != (impl.Sig{}) {
			t.Errorf("ItemSig(%q) is %v, %t", s, sig, ok)
		}
	}
}

func TestScriptsThatWereGivenStay(t *testing.T) {
	for _, ops := range append(fewScripts(800), noScripts()...) {
		// What is behind the length of the slice is not changed either.
		given := append(slices.Clone(ops), impl.Op{Code: 3, A: 7, Text: "behind"})
		before := slices.Clone(given)
		impl.ScriptOk(given[:len(ops)])
		impl.ScriptText(given[:len(ops)])
		impl.ScriptBytes(given[:len(ops)])
		if !slices.Equal(given, before) {
			t.Fatalf("%#v became %#v", before, given)
		}
	}
}

func TestScriptsThatWereHandedOutAreOnesOwn(t *testing.T) {
	for _, want := range fewScripts(800) {
		text, bytes := scriptTextOf(want), scriptBytesOf(want)
		parsed, read := mustParse(t, text), mustRead(t, bytes)
		parsedAgain, readAgain := mustParse(t, text), mustRead(t, bytes)
		for _, ops := range [][]impl.Op{parsed, read} {
			for i := range ops[:cap(ops)] {
				ops[:cap(ops)][i] = impl.Op{Code: 99, A: 1, B: 2, Text: "changed"}
			}
		}
		for _, ops := range [][]impl.Op{parsedAgain, readAgain, mustParse(t, text), mustRead(t, bytes)} {
			if !slices.Equal(ops, want) {
				t.Fatalf("another call's script %#v became %#v", want, ops)
			}
		}
	}
}
