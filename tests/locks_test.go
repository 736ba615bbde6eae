package tests

import (
	"fmt"
	"math"
	"regexp"
	"slices"
	"strconv"
	"strings"
	"testing"

	"loop.example/workchain/impl"
)

// lockKeys are valid keys: the smallest ones, those of secrets, and the greatest one.
var lockKeys = []int{3, 4, 5, 4194304, 565248, 536870895, impl.GroupMod - 6, impl.GroupMod - 2}

// lockDigests are digests at their limits and between them.
var lockDigests = []int{0, 1, 2, 255, 256, 65536, 980112286, 1 << 31, impl.NumTop - 1, impl.NumTop}

// lockHeights are heights that a lock can demand, at their limits and where their encoding changes.
var lockHeights = []int{0, 1, 2, 252, 253, 255, 256, 300, 9998, 9999}

// noHeights are numbers below and above the heights.
var noHeights = []int{-1, -2, -9999, math.MinInt, 10000, 10001, 65536, 65537, 1 << 32, 1<<32 + 1, math.MaxInt}

// lockDelays are ages that a lock can demand, with their limits.
var lockDelays = []int{1, 2, 5, 50, 98, 99}

// noDelays are numbers below and above those ages.
var noDelays = []int{0, -1, -99, math.MinInt, 100, 101, 256, 257, 9999, 1 << 32, 1<<32 + 1, math.MaxInt}

// abc is the digest of the preimage abc.
const abc = 980112286

// madeLock is a lock that a function has made, with its kind and the text of its script as the document writes it.
type madeLock struct {
	name string
	text string
	lock string
	ok   bool
}

func madeKey(key int) madeLock {
	lock, ok := impl.LockKey(key)
	return madeLock{"key", fmt.Sprintf("x%08x sign", key), lock, ok}
}

func madeDigest(d int) madeLock {
	lock, ok := impl.LockDigest(d)
	return madeLock{"digest", fmt.Sprintf("digest x%08x equal", d), lock, ok}
}

func madeMany(need int, keys ...int) madeLock {
	lock, ok := impl.LockMany(need, keys)
	text := ""
	for _, key := range keys {
		text += fmt.Sprintf("x%08x ", key)
	}
	return madeLock{"shared", text + fmt.Sprintf("many:%d:%d", need, len(keys)), lock, ok}
}

func madeTimed(d int, payee int, height int, payer int) madeLock {
	lock, ok := impl.LockTimed(d, payee, height, payer)
	text := fmt.Sprintf("if digest x%08x equal verify x%08x sign else after:%d x%08x sign end", d, payee, height, payer)
	return madeLock{"timed", text, lock, ok}
}

func madeRevocable(revoke int, delay int, owner int) madeLock {
	lock, ok := impl.LockRevocable(revoke, delay, owner)
	text := fmt.Sprintf("if x%08x sign else older:%d x%08x sign end", revoke, delay, owner)
	return madeLock{"revocable", text, lock, ok}
}

// isRight tells where a lock is not the one of the text, or has another name than that of its kind.
func (m madeLock) isRight(t *testing.T) {
	t.Helper()
	want := scriptBytesOf(mustParse(t, m.text))
	if !m.ok || m.lock != want {
		t.Errorf("the %s lock %q is %x, %t, want %x", m.name, m.text, m.lock, m.ok, want)
	}
	if text, ok := impl.ScriptText(mustRead(t, m.lock)); !ok || text != m.text {
		t.Errorf("the %s lock %q is read as %q", m.name, m.text, text)
	}
	if name := impl.LockName(m.lock); name != m.name {
		t.Errorf("LockName of %q is %q, want %q", m.text, name, m.name)
	}
}

// isRefused tells where a lock that cannot be made is not false and empty.
func (m madeLock) isRefused(t *testing.T) {
	t.Helper()
	if m.ok || m.lock != "" {
		t.Errorf("the %s lock %q is %x, %t", m.name, m.text, m.lock, m.ok)
	}
}

// secretKey is the key of a secret.
func secretKey(secret int) int {
	return powerOf(impl.GroupBase, secret)
}

// oneOfEach are locks of each kind, which the secrets 11, 22 and 33 and the preimage abc can open.
func oneOfEach() []madeLock {
	a, b, c := secretKey(11), secretKey(22), secretKey(33)
	return []madeLock{
		madeKey(a), madeDigest(abc), madeMany(1, a), madeMany(2, a, b), madeMany(2, a, b, c), madeMany(1, a, a), madeMany(3, c, b, a, b, c),
		madeTimed(abc, a, 300, b), madeTimed(abc, a, 10, a), madeTimed(abc, b, 0, a), madeTimed(abc, c, 9999, b), madeRevocable(a, 5, b), madeRevocable(b, 1, a), madeRevocable(a, 99, a),
	}
}

func TestLocksThatWereWrittenByHand(t *testing.T) {
	for _, c := range []struct {
		made madeLock
		want string
	}{
		{madeKey(4194304), "\x00\x04\x00\x40\x00\x00\x0b"},
		{madeKey(impl.GroupMod - 2), "\x00\x04\x7f\xff\xff\xb9\x0b"},
		{madeDigest(abc), "\x0a\x00\x04\x3a\x6b\x53\x9e\x04"},
		{madeDigest(0), "\x0a\x00\x04\x00\x00\x00\x00\x04"},
		{madeDigest(impl.NumTop), "\x0a\x00\x04\xff\xff\xff\xff\x04"},
		{madeMany(1, 4194304), "\x00\x04\x00\x40\x00\x00\x0c\x01\x01"},
		{madeMany(2, 4194304, 565248), "\x00\x04\x00\x40\x00\x00\x00\x04\x00\x08\xa0\x00\x0c\x02\x02"},
		{madeMany(1, 565248, 4194304), "\x00\x04\x00\x08\xa0\x00\x00\x04\x00\x40\x00\x00\x0c\x01\x02"},
		{madeMany(3, 3, 4, 5, 4, 3), "\x00\x04\x00\x00\x00\x03\x00\x04\x00\x00\x00\x04\x00\x04\x00\x00\x00\x05\x00\x04\x00\x00\x00\x04\x00\x04\x00\x00\x00\x03\x0c\x03\x05"},
		{madeTimed(abc, 4194304, 300, 565248), "\x06\x0a\x00\x04\x3a\x6b\x53\x9e\x04\x09\x00\x04\x00\x40\x00\x00\x0b\x07\x0d\xfd\x2c\x01\x00\x04\x00\x08\xa0\x00\x0b\x08"},
		{madeTimed(1, 565248, 0, 4194304), "\x06\x0a\x00\x04\x00\x00\x00\x01\x04\x09\x00\x04\x00\x08\xa0\x00\x0b\x07\x0d\x00\x00\x04\x00\x40\x00\x00\x0b\x08"},
		{madeRevocable(4194304, 5, 565248), "\x06\x00\x04\x00\x40\x00\x00\x0b\x07\x0e\x05\x00\x04\x00\x08\xa0\x00\x0b\x08"},
		{madeRevocable(565248, 99, 4194304), "\x06\x00\x04\x00\x08\xa0\x00\x0b\x07\x0e\x63\x00\x04\x00\x40\x00\x00\x0b\x08"},
	} {
		c.made.isRight(t)
		if c.made.lock != c.want {
			t.Errorf("the %s lock %q is %x, want %x", c.made.name, c.made.text, c.made.lock, c.want)
		}
	}
}

func TestP66LocksOfKeys(t *testing.T) {
	for _, key := range append(someElements()[1:], lockKeys...) {
		madeKey(key).isRight(t)
	}
	for _, secret := range someScalars() {
		madeKey(secretKey(secret)).isRight(t)
	}
	for _, no := range noKeys {
		madeKey(no).isRefused(t)
	}
}

func TestP67LocksOfDigests(t *testing.T) {
	for _, d := range append(someDigests(), lockDigests...) {
		madeDigest(d).isRight(t)
	}
	// Numbers that are no keys may well be digests.
	for _, no := range noKeys {
		if no >= 0 && no <= impl.NumTop {
			madeDigest(no).isRight(t)
		}
	}
	for _, no := range noDigests {
		madeDigest(no).isRefused(t)
	}
}

func TestP68LocksOfManyKeys(t *testing.T) {
	for first := range lockKeys {
		keys := append(lockKeys[first:len(lockKeys):len(lockKeys)], lockKeys[:first]...)
		for n := 1; n <= 5; n++ {
			for need := 1; need <= n; need++ {
				madeMany(need, keys[:n]...).isRight(t)
				madeMany(need, slices.Repeat(keys[:1], n)...).isRight(t)
				madeMany(need, append(keys[:n-1:n-1], keys[0])...).isRight(t)
			}
		}
	}
}

func TestLockManyRefuses(t *testing.T) {
	for n := 0; n <= 5; n++ {
		for _, need := range []int{0, -1, -2, -n, math.MinInt, n + 1, n + 2, 6, 7, n + 256, n + 1<<32, 1<<32 + 1, math.MaxInt} {
			madeMany(need, lockKeys[:n]...).isRefused(t)
		}
	}
	for _, need := range []int{0, 1, 2, 5, 6, 7, 8, 40, 41, 256, 257, 1000} {
		for _, n := range []int{6, 7, 39, 40, 41, 255, 256, 257, 1000} {
			madeMany(need, slices.Repeat(lockKeys[:1], n)...).isRefused(t)
		}
		madeMany(need).isRefused(t)
		madeMany(need, lockKeys[:6]...).isRefused(t)
		madeMany(need, lockKeys[:7]...).isRefused(t)
	}
	for _, no := range noKeys {
		for n := 1; n <= 6; n++ {
			for at := range n {
				keys := slices.Clone(lockKeys[:n])
				keys[at] = no
				for need := 0; need <= n+1; need++ {
					madeMany(need, keys...).isRefused(t)
				}
			}
		}
	}
}

func TestP69LocksOfDigestsKeysAndHeights(t *testing.T) {
	for i, d := range lockDigests {
		for k, payee := range lockKeys {
			for _, height := range lockHeights {
				madeTimed(d, payee, height, lockKeys[(i+k)%len(lockKeys)]).isRight(t)
			}
		}
	}
	for height := range impl.HeightMax + 1 {
		lock, ok := impl.LockTimed(abc, 4194304, height, 565248)
		want := "\x06\x0a\x00\x04\x3a\x6b\x53\x9e\x04\x09\x00\x04\x00\x40\x00\x00\x0b\x07\x0d" + numBytes(height) + "\x00\x04\x00\x08\xa0\x00\x0b\x08"
		if !ok || lock != want || impl.LockName(lock) != "timed" {
			t.Errorf("LockTimed of the height %d is %x, %t, and its name %q", height, lock, ok, impl.LockName(lock))
		}
	}
}

func TestLockTimedRefuses(t *testing.T) {
	for _, payee := range lockKeys {
		for _, payer := range lockKeys {
			for _, no := range noDigests {
				madeTimed(no, payee, 300, payer).isRefused(t)
			}
			for _, no := range noHeights {
				madeTimed(abc, payee, no, payer).isRefused(t)
			}
		}
		for _, no := range noKeys {
			for _, height := range lockHeights {
				madeTimed(abc, no, height, payee).isRefused(t)
				madeTimed(abc, payee, height, no).isRefused(t)
				madeTimed(abc, no, height, no).isRefused(t)
			}
		}
	}
	for i, no := range noKeys {
		madeTimed(noDigests[i%len(noDigests)], no, noHeights[i%len(noHeights)], no).isRefused(t)
	}
}

func TestP70LocksOfKeysAndDelays(t *testing.T) {
	for _, revoke := range lockKeys {
		for _, owner := range lockKeys {
			for delay := 1; delay <= impl.AgeMax; delay++ {
				madeRevocable(revoke, delay, owner).isRight(t)
			}
		}
	}
}

func TestLockRevocableRefuses(t *testing.T) {
	for _, key := range lockKeys {
		for _, other := range lockKeys {
			for _, no := range noDelays {
				madeRevocable(key, no, other).isRefused(t)
			}
		}
		for _, no := range noKeys {
			for _, delay := range lockDelays {
				madeRevocable(no, delay, key).isRefused(t)
				madeRevocable(key, delay, no).isRefused(t)
				madeRevocable(no, delay, no).isRefused(t)
			}
		}
	}
	for i, no := range noKeys {
		madeRevocable(no, noDelays[i%len(noDelays)], no).isRefused(t)
	}
}

// lockForm is how the texts of a kind of locks look; what stands in round brackets are the digits of keys.
type lockForm struct {
	name string
	form *regexp.Regexp
}

// lockForms are the forms of all kinds.
func lockForms() []lockForm {
	form := func(name string, text string) lockForm {
		text = strings.ReplaceAll(strings.ReplaceAll(text, "KEY", "x([0-9a-f]{8})"), "DIGEST", "x[0-9a-f]{8}")
		return lockForm{name, regexp.MustCompile("^" + text + "$")}
	}
	list := []lockForm{
		form("key", "KEY sign"), form("digest", "digest DIGEST equal"),
		form("timed", "if digest DIGEST equal verify KEY sign else after:[0-9]{1,4} KEY sign end"),
		form("revocable", "if KEY sign else older:[1-9][0-9]? KEY sign end"),
	}
	for n := 1; n <= 5; n++ {
		list = append(list, form("shared", strings.Repeat("KEY ", n)+fmt.Sprintf("many:[1-%d]:%d", n, n)))
	}
	return list
}

// formOf tells by the words of the document what kind of lock operations are.
func formOf(forms []lockForm, ops []impl.Op) string {
	text := scriptTextOf(ops)
	for _, f := range forms {
		found := f.form.FindStringSubmatch(text)
		if found == nil {
			continue
		}
		for _, digits := range found[1:] {
			if key, err := strconv.ParseUint(digits, 16, 32); err != nil || key == 1 || !isSquare(int(key)) {
				return ""
			}
		}
		return f.name
	}
	return ""
}

// nameOfOps tells where LockName of the bytes of operations, which need not be a script, is not as the document tells, and the name.
func nameOfOps(t *testing.T, forms []lockForm, ops []impl.Op) string {
	t.Helper()
	want := formOf(forms, ops)
	if got := impl.LockName(scriptBytesOf(ops)); got != want {
		t.Errorf("LockName of %q is %q, want %q", scriptTextOf(ops), got, want)
	}
	return want
}

// nameOfBytes tells where LockName of a string is not as the document tells, and the name.
func nameOfBytes(t *testing.T, forms []lockForm, s string) string {
	t.Helper()
	want := ""
	if ops, ok := impl.ScriptRead(s); ok {
		want = formOf(forms, ops)
	}
	if got := impl.LockName(s); got != want {
		t.Errorf("LockName(%x) is %q, want %q", s, got, want)
	}
	return want
}

// hasNoName tells where a string that is no lock has the name of one.
func hasNoName(t *testing.T, s string) {
	t.Helper()
	if name := impl.LockName(s); name != "" {
		t.Errorf("LockName(%x) is %q", s, name)
	}
}

func TestFormsAreThoseOfTheLocks(t *testing.T) {
	forms := lockForms()
	for _, m := range oneOfEach() {
		if got := formOf(forms, mustParse(t, m.text)); got != m.name {
			t.Errorf("the form of %q is %q, want %q", m.text, got, m.name)
		}
	}
}

func TestLockNameOfOneOperationMoreOrFewer(t *testing.T) {
	forms := lockForms()
	others := slices.Concat(someOps(), conditionOps, slices.DeleteFunc(wrongOps(), func(op impl.Op) bool { return !areWritten([]impl.Op{op}) }))
	for _, m := range oneOfEach() {
		ops := mustRead(t, m.lock)
		for at := range len(ops) + 1 {
			for _, op := range others {
				nameOfOps(t, forms, slices.Insert(slices.Clone(ops), at, op))
			}
			if at == len(ops) {
				continue
			}
			nameOfOps(t, forms, slices.Delete(slices.Clone(ops), at, at+1))
			nameOfOps(t, forms, slices.Insert(slices.Clone(ops), at, ops[at]))
			for _, op := range others {
				nameOfOps(t, forms, slices.Replace(slices.Clone(ops), at, at+1, op))
			}
			for other := range ops {
				exchanged := slices.Clone(ops)
				exchanged[at], exchanged[other] = exchanged[other], exchanged[at]
				nameOfOps(t, forms, exchanged)
			}
		}
		for n := range len(ops) {
			nameOfOps(t, forms, ops[:n])
			nameOfOps(t, forms, ops[n:])
		}
	}
}

func TestLockNameOfOtherPushes(t *testing.T) {
	forms := lockForms()
	texts := append(someItems(), "\x00\x40\x00", "\x40\x00\x00", "\x00\x00\x40\x00\x00", "\x00\x40\x00\x00\x00", key11+key11, coinSig, impl.HexOf(key11), "4194304", strings.Repeat("a", 81), strings.Repeat(key11, 64))
	for _, key := range lockKeys {
		texts = append(texts, fourBytes(key))
	}
	for _, no := range noKeys {
		if no >= 0 && no <= impl.NumTop {
			texts = append(texts, fourBytes(no))
		}
	}
	met := map[string]int{}
	for _, m := range oneOfEach() {
		ops := mustRead(t, m.lock)
		for at, op := range ops {
			if op.Code != impl.OpPush {
				continue
			}
			for _, text := range texts {
				other := slices.Clone(ops)
				other[at].Text = text
				met[nameOfOps(t, forms, other)]++
			}
		}
	}
	for _, name := range []string{"", "key", "digest", "shared", "timed", "revocable"} {
		if met[name] < 8 {
			t.Errorf("just %d locks have the name %q", met[name], name)
		}
	}
}

func TestLockNameRefusesKeysThatAreNotValid(t *testing.T) {
	a, b := keyItem(11), keyItem(22)
	for _, no := range noKeys {
		if no < 0 || no > impl.NumTop {
			continue
		}
		wrong := impl.HexOf(fourBytes(no))
		right, other := impl.HexOf(a), impl.HexOf(b)
		for _, text := range []string{
			"x" + wrong + " sign", "x" + wrong + " many:1:1", "x" + wrong + " x" + other + " many:1:2", "x" + right + " x" + wrong + " many:1:2", "x" + right + " x" + wrong + " x" + other + " many:2:3",
			"if digest x3a6b539e equal verify x" + wrong + " sign else after:300 x" + other + " sign end", "if digest x3a6b539e equal verify x" + right + " sign else after:300 x" + wrong + " sign end",
			"if x" + wrong + " sign else older:5 x" + other + " sign end", "if x" + right + " sign else older:5 x" + wrong + " sign end",
		} {
			hasNoName(t, scriptBytesOf(mustParse(t, text)))
		}
	}
}

func TestLockNameOfOtherNumbers(t *testing.T) {
	forms := lockForms()
	for pushes := range 9 {
		for a := range 9 {
			for b := range 9 {
				var ops []impl.Op
				for i := range pushes {
					ops = append(ops, impl.Op{Code: 0, Text: fourBytes(lockKeys[i%len(lockKeys)])})
				}
				isLock := 1 <= a && a <= b && b <= 5 && b == pushes
				if name := nameOfOps(t, forms, append(ops, impl.Op{Code: 12, A: a, B: b})); (name == "shared") != isLock {
					t.Errorf("the form of many:%d:%d behind %d keys is %q", a, b, pushes, name)
				}
			}
		}
	}
	for n := range 12000 {
		for _, form := range []string{"if digest x3a6b539e equal verify x00400000 sign else %s x0008a000 sign end", "if x00400000 sign else %s x0008a000 sign end"} {
			for _, code := range []int{impl.OpAfter, impl.OpOlder} {
				ops := mustParse(t, fmt.Sprintf(form, "dup"))
				ops[slices.Index(ops, impl.Op{Code: impl.OpDup})] = impl.Op{Code: code, A: n}
				nameOfOps(t, forms, ops)
			}
		}
	}
}

func TestLockNameRefusesNumbersOutOfRange(t *testing.T) {
	for _, height := range []int{10000, 10001, 65535, 65536, impl.NumTop} {
		hasNoName(t, "\x06\x0a\x00\x04\x3a\x6b\x53\x9e\x04\x09\x00\x04\x00\x40\x00\x00\x0b\x07\x0d"+numBytes(height)+"\x00\x04\x00\x08\xa0\x00\x0b\x08")
	}
	for _, delay := range []int{0, 100, 101, 252, 253, 256, 257, 65536, impl.NumTop} {
		hasNoName(t, "\x06\x00\x04\x00\x40\x00\x00\x0b\x07\x0e"+numBytes(delay)+"\x00\x04\x00\x08\xa0\x00\x0b\x08")
	}
	// Numbers and lengths that are written longer than is necessary.
	for _, s := range []string{
		"\x06\x0a\x00\x04\x3a\x6b\x53\x9e\x04\x09\x00\x04\x00\x40\x00\x00\x0b\x07\x0d\xfd\x0a\x00\x00\x04\x00\x08\xa0\x00\x0b\x08", "\x06\x00\x04\x00\x40\x00\x00\x0b\x07\x0e\xfd\x05\x00\x00\x04\x00\x08\xa0\x00\x0b\x08",
		"\x00\xfd\x04\x00\x00\x40\x00\x00\x0b", "\x0a\x00\xfd\x04\x00\x3a\x6b\x53\x9e\x04", "\x00\x04\x00\x40\x00\x00\x0c\xfd\x01\x00\x01", "\x00\x04\x00\x40\x00\x00\x0c\x01\xfd\x01\x00",
	} {
		hasNoName(t, s)
	}
}

func TestLockNameOfWhatIsNoLock(t *testing.T) {
	forms := lockForms()
	hasNoName(t, "")
	for _, s := range []string{"key", "digest", "shared", "timed", "revocable", "\x00", "\x0b", "\x00\x04\x00\x40\x00\x00", "x00400000 sign", timedLock, key11, "\x00\x04" + key11, key11 + "\x0b", "\xff", strings.Repeat("\x0b", 41), strings.Repeat("a", 301), strings.Repeat("\x00\x04\x00\x40\x00\x00", 100000)} {
		hasNoName(t, s)
	}
	for _, s := range someBytes() {
		nameOfBytes(t, forms, s)
	}
	for _, ops := range someScripts() {
		nameOfOps(t, forms, ops)
	}
	for _, ops := range noScripts() {
		if areWritten(ops) {
			hasNoName(t, scriptBytesOf(ops))
		}
	}
	for _, m := range oneOfEach() {
		hasNoName(t, m.text)
		for _, other := range oneOfEach() {
			hasNoName(t, m.lock+other.lock)
			hasNoName(t, "\x06"+m.lock+"\x07"+other.lock+"\x08")
		}
		hasNoName(t, "\x06"+m.lock+"\x08")
	}
}

func TestP71LocksWithANameAreScripts(t *testing.T) {
	forms := lockForms()
	met := map[string]int{}
	check := func(s string) {
		name := nameOfBytes(t, forms, s)
		met[name]++
		if _, ok := impl.ScriptRead(s); name != "" && !ok {
			t.Errorf("%x has the name %q, but is no script", s, name)
		}
	}
	for _, m := range oneOfEach() {
		check(m.lock)
		for at := range len(m.lock) + 1 {
			for b := range 256 {
				check(m.lock[:at] + string([]byte{byte(b)}) + m.lock[at:])
				if at < len(m.lock) {
					check(changed(m.lock, at, byte(b)))
				}
			}
			if at < len(m.lock) {
				check(m.lock[:at] + m.lock[at+1:])
				check(m.lock[:at])
				check(m.lock[at:])
			}
		}
	}
	for _, name := range []string{"", "key", "digest", "shared", "timed", "revocable"} {
		if met[name] < 100 {
			t.Errorf("just %d strings have the name %q", met[name], name)
		}
	}
}

// witnessIsRight tells where a witness is not made of the items.
func witnessIsRight(t *testing.T, what string, got []string, ok bool, want ...string) {
	t.Helper()
	if !ok || !slices.Equal(got, want) {
		t.Errorf("%s is %q, %t, want %q", what, got, ok, want)
	}
}

// witnessIsRefused tells where a witness that cannot be made is not false and without items.
func witnessIsRefused(t *testing.T, what string, got []string, ok bool) {
	t.Helper()
	if ok || len(got) != 0 {
		t.Errorf("%s is %q, %t", what, got, ok)
	}
}

// somePreimages are texts that can be preimages, with those of no bytes and of ItemMax bytes.
var somePreimages = []string{"", "\x00", "\x01", "abc", "zinke", coinSig, key11, strings.Repeat("a", 79), strings.Repeat("\xff", 80), strings.Repeat("ä", 40)}

// noPreimages are texts that are too long for one.
var noPreimages = []string{strings.Repeat("a", 81), strings.Repeat("\x00", 82), strings.Repeat("ä", 41), strings.Repeat("a", 256+80), strings.Repeat("a", 4001)}

func TestWitnessesThatWereWrittenByHand(t *testing.T) {
	witness, ok := impl.OpenKey(11, "coin")
	witnessIsRight(t, "OpenKey", witness, ok, coinSig)
	witness, ok = impl.OpenMany([]int{11, 11}, "coin")
	witnessIsRight(t, "OpenMany", witness, ok, coinSig, coinSig)
	witness, ok = impl.OpenPayee(11, "abc", "coin")
	witnessIsRight(t, "OpenPayee", witness, ok, coinSig, "abc", "\x01")
	witness, ok = impl.OpenLast(11, "coin")
	witnessIsRight(t, "OpenLast", witness, ok, coinSig, "")
	witness, ok = impl.OpenRevoked(11, "coin")
	witnessIsRight(t, "OpenRevoked", witness, ok, coinSig, "\x01")
}

func TestWitnessesOfOneSecret(t *testing.T) {
	for _, secret := range append(someScalars()[:40], signers...) {
		for _, text := range someMessages() {
			sig := sigItem(secret, text)
			what := fmt.Sprintf("the witness of %d and %.20q", secret, text)
			witness, ok := impl.OpenKey(secret, text)
			witnessIsRight(t, what, witness, ok, sig)
			witness, ok = impl.OpenMany([]int{secret}, text)
			witnessIsRight(t, what, witness, ok, sig)
			witness, ok = impl.OpenLast(secret, text)
			witnessIsRight(t, what, witness, ok, sig, "")
			witness, ok = impl.OpenRevoked(secret, text)
			witnessIsRight(t, what, witness, ok, sig, "\x01")
			for _, preimage := range somePreimages {
				witness, ok = impl.OpenPayee(secret, preimage, text)
				witnessIsRight(t, what, witness, ok, sig, preimage, "\x01")
			}
			if m := mustSign(t, secret, text); impl.SigItem(m.Sig) != sig {
				t.Errorf("SigItem of Sign(%d, %.20q) is another one", secret, text)
			}
		}
	}
}

func TestWitnessesOfSecretsThatAreNone(t *testing.T) {
	for _, no := range noSecrets {
		for _, text := range someMessages()[:4] {
			what := fmt.Sprintf("the witness of %d and %q", no, text)
			witness, ok := impl.OpenKey(no, text)
			witnessIsRefused(t, what, witness, ok)
			witness, ok = impl.OpenLast(no, text)
			witnessIsRefused(t, what, witness, ok)
			witness, ok = impl.OpenRevoked(no, text)
			witnessIsRefused(t, what, witness, ok)
			for _, preimage := range append(noPreimages, somePreimages...) {
				witness, ok = impl.OpenPayee(no, preimage, text)
				witnessIsRefused(t, what, witness, ok)
			}
		}
	}
	for _, secret := range signers {
		for _, preimage := range noPreimages {
			witness, ok := impl.OpenPayee(secret, preimage, "coin")
			witnessIsRefused(t, fmt.Sprintf("the witness of a preimage of %d bytes", len(preimage)), witness, ok)
		}
	}
}

func TestWitnessesOfManySecrets(t *testing.T) {
	for first := range signers {
		secrets := append(signers[first:len(signers):len(signers)], signers[:first]...)
		for n := range 9 {
			for _, list := range [][]int{secrets[:n], slices.Repeat(secrets[:1], n)} {
				var want []string
				for _, secret := range list {
					want = append(want, sigItem(secret, "coin"))
				}
				witness, ok := impl.OpenMany(list, "coin")
				if n >= 1 && n <= 5 {
					witnessIsRight(t, fmt.Sprintf("OpenMany(%d)", list), witness, ok, want...)
				} else {
					witnessIsRefused(t, fmt.Sprintf("OpenMany(%d)", list), witness, ok)
				}
			}
			for at := range n {
				for _, no := range noSecrets {
					list := slices.Clone(secrets[:n])
					list[at] = no
					witness, ok := impl.OpenMany(list, "coin")
					witnessIsRefused(t, fmt.Sprintf("OpenMany(%d)", list), witness, ok)
				}
			}
		}
	}
	for _, list := range [][]int{nil, {}, {0}, {impl.GroupOrder}, slices.Repeat([]int{11}, 40), slices.Repeat([]int{11}, 41), slices.Repeat([]int{11}, 257)} {
		witness, ok := impl.OpenMany(list, "coin")
		witnessIsRefused(t, fmt.Sprintf("OpenMany of %d secrets", len(list)), witness, ok)
	}
}

// mustOpen is the witness of a call that tells one.
func mustOpen(t *testing.T) func(witness []string, ok bool) []string {
	return func(witness []string, ok bool) []string {
		t.Helper()
		if !ok {
			t.Fatalf("a witness is false")
		}
		return witness
	}
}

// unlocks tells where a lock is opened by a witness, or is not, other than it must be.
func unlocks(t *testing.T, m madeLock, witness []string, env impl.Env, want bool) {
	t.Helper()
	if !m.ok {
		t.Fatalf("the lock %q is refused", m.text)
	}
	if got := impl.Unlock(m.lock, witness, env); got != want {
		t.Errorf("Unlock of %q by %q at the height %d and the age %d with %.20q is %t", m.text, witness, env.Height, env.Age, env.Text, got)
	}
}

// tells tells where LockPreimage of a lock, a witness and what they are run with is not the preimage.
func tells(t *testing.T, m madeLock, witness []string, env impl.Env, want string) {
	t.Helper()
	if got, ok := impl.LockPreimage(m.lock, witness, env); !ok || got != want {
		t.Errorf("LockPreimage of %q and %q at %v is %q, %t, want %q", m.text, witness, env, got, ok, want)
	}
}

// tellsNothing tells where LockPreimage is not false and the empty string.
func tellsNothing(t *testing.T, lock string, witness []string, env impl.Env) {
	t.Helper()
	if got, ok := impl.LockPreimage(lock, witness, env); ok || got != "" {
		t.Errorf("LockPreimage(%x, %q, %v) is %q, %t", lock, witness, env, got, ok)
	}
}

// timesFor are heights or ages below, at and above a number, negative ones too.
func timesFor(n int) []int {
	return append(aroundNumber(n), n-3, n+3, 9999, 10000, 99, 100)
}

func TestP72KeyLocksAreOpenedAtAnyTime(t *testing.T) {
	for _, secret := range signers {
		m := madeKey(secretKey(secret))
		for _, text := range someMessages() {
			witness := mustOpen(t)(impl.OpenKey(secret, text))
			for _, env := range someEnvs {
				env.Text = text
				unlocks(t, m, witness, env, true)
				tellsNothing(t, m.lock, witness, env)
			}
			unlocks(t, m, witness, impl.Env{Text: text + "."}, false)
		}
	}
	for _, secret := range someScalars() {
		unlocks(t, madeKey(secretKey(secret)), mustOpen(t)(impl.OpenKey(secret, "coin")), atCoin, true)
	}
}

func TestP73SharedLocksAreOpenedByAll(t *testing.T) {
	for first := range signers {
		secrets := append(signers[first:len(signers):len(signers)], signers[:first]...)
		for n := 1; n <= 5; n++ {
			for _, list := range [][]int{secrets[:n], slices.Repeat(secrets[:1], n), append(secrets[:n-1:n-1], secrets[0])} {
				m := madeMany(n, keysOf(list)...)
				for _, text := range someMessages() {
					witness := mustOpen(t)(impl.OpenMany(list, text))
					for _, env := range someEnvs[:6] {
						env.Text = text
						unlocks(t, m, witness, env, true)
						tellsNothing(t, m.lock, witness, env)
					}
					unlocks(t, m, witness, impl.Env{Text: text + "."}, false)
				}
			}
		}
	}
}

// secretsNamed are the secrets of the letters a to e, and 66 for others.
func secretsNamed(letters string) []int {
	var list []int
	for _, letter := range letters {
		secret, is := members[letter]
		if !is {
			secret = 66
		}
		list = append(list, secret)
	}
	return list
}

func TestSharedLocksOfTheTable(t *testing.T) {
	for _, c := range []struct {
		need int
		keys string
		sigs string
		want bool
	}{
		// In the order of the keys and in the other one.
		{2, "ab", "ab", true}, {2, "ab", "ba", false}, {2, "ba", "ba", true}, {2, "ba", "ab", false}, {3, "abc", "abc", true}, {3, "abc", "cba", false}, {3, "abc", "acb", false}, {3, "abc", "bac", false}, {5, "abcde", "abcde", true}, {5, "abcde", "edcba", false}, {5, "abcde", "abced", false},
		// Some of them are enough, in the order of the keys.
		{1, "a", "a", true}, {1, "ab", "a", true}, {1, "ab", "b", true}, {1, "ab", "c", false}, {2, "abc", "ab", true}, {2, "abc", "ac", true}, {2, "abc", "bc", true}, {2, "abc", "ca", false}, {2, "abc", "cb", false}, {2, "abc", "ba", false}, {3, "abcde", "ace", true}, {3, "abcde", "eca", false}, {4, "abcde", "bcde", true}, {4, "abcde", "bced", false}, {1, "abcde", "e", true},
		// Fewer than are needed, and more.
		{2, "ab", "a", false}, {2, "ab", "b", false}, {3, "abc", "ab", false}, {5, "abcde", "abcd", false}, {2, "abc", "c", false}, {1, "ab", "ab", false}, {1, "a", "aa", false}, {2, "abc", "abc", false}, {2, "aa", "aaa", false}, {4, "abcde", "abcde", false}, {1, "abcde", "abcde", false},
		// One signature twice, and a key twice.
		{2, "ab", "aa", false}, {2, "ab", "bb", false}, {2, "abc", "aa", false}, {2, "aa", "aa", true}, {1, "aa", "a", true}, {2, "aa", "ab", false}, {2, "aab", "aa", true}, {2, "aba", "aa", true}, {2, "aab", "ab", true}, {2, "aab", "ba", false}, {2, "aba", "ba", true}, {3, "aab", "aab", true}, {3, "aab", "aba", false}, {3, "aba", "aba", true}, {3, "aab", "aaa", false}, {5, "aaaaa", "aaaaa", true}, {5, "aaaaa", "aaaab", false},
		// Somebody else among them.
		{1, "a", "x", false}, {2, "ab", "ax", false}, {2, "ab", "xb", false}, {2, "abc", "xc", false}, {3, "abc", "axc", false}, {1, "ab", "xa", false}, {1, "ab", "ax", false}, {2, "abc", "xab", false},
	} {
		m := madeMany(c.need, keysOf(secretsNamed(c.keys))...)
		witness := mustOpen(t)(impl.OpenMany(secretsNamed(c.sigs), "coin"))
		unlocks(t, m, witness, atCoin, c.want)
		unlocks(t, m, witness, impl.Env{Text: "Coin", Height: 10, Age: 5}, false)
		unlocks(t, m, append([]string{""}, witness...), atCoin, false)
		unlocks(t, m, append(slices.Clone(witness), ""), atCoin, false)
		tellsNothing(t, m.lock, witness, atCoin)
	}
}

func TestSharedLocksOfAllSmallOnes(t *testing.T) {
	sameMember := func(sig string, key string) bool { return sig == key && sig != "x" }
	held := 0
	for _, keys := range []string{"a", "b", "ab", "ba", "aa", "abc", "cba", "aba", "aab", "aaa", "abcd", "abab", "aabb", "abcab"} {
		for need := 1; need <= len(keys); need++ {
			m := madeMany(need, keysOf(secretsNamed(keys))...)
			for n := 1; n <= 4; n++ {
				for _, sigs := range wordsOf("abcx", n) {
					want := n == need && canMatch(strings.Split(sigs, ""), strings.Split(keys, ""), sameMember)
					unlocks(t, m, sigsNamed(sigs), atCoin, want)
					if want {
						held++
					}
				}
			}
			unlocks(t, m, nil, atCoin, false)
		}
	}
	if held < 60 {
		t.Errorf("just %d shared locks are opened", held)
	}
}

func TestP74TimedLocksAreOpenedByThePayee(t *testing.T) {
	for i, secret := range signers {
		payer := signers[(i*7+3)%len(signers)]
		for k, preimage := range somePreimages {
			text := someMessages()[(i+k)%len(someMessages())]
			for _, height := range []int{0, 1, 300, 9999} {
				m := madeTimed(digestOf(preimage), secretKey(secret), height, secretKey(payer))
				witness := mustOpen(t)(impl.OpenPayee(secret, preimage, text))
				for _, at := range timesFor(height) {
					env := impl.Env{Text: text, Height: at, Age: -at}
					unlocks(t, m, witness, env, true)
					tells(t, m, witness, env, preimage)
				}
			}
		}
	}
}

func TestTimedLocksOfWrongPayees(t *testing.T) {
	m := madeTimed(abc, secretKey(11), 300, secretKey(22))
	for _, height := range timesFor(300) {
		env := impl.Env{Text: "coin", Height: height, Age: 5}
		right := mustOpen(t)(impl.OpenPayee(11, "abc", "coin"))
		unlocks(t, m, right, env, true)
		tells(t, m, right, env, "abc")
		wrong := [][]string{
			mustOpen(t)(impl.OpenPayee(11, "abd", "coin")), mustOpen(t)(impl.OpenPayee(11, "", "coin")), mustOpen(t)(impl.OpenPayee(11, "\x3a\x6b\x53\x9e", "coin")), mustOpen(t)(impl.OpenPayee(11, "abc ", "coin")),
			mustOpen(t)(impl.OpenPayee(22, "abc", "coin")), mustOpen(t)(impl.OpenPayee(33, "abc", "coin")), mustOpen(t)(impl.OpenPayee(11, "abc", "Coin")), mustOpen(t)(impl.OpenPayee(11, "abc", "")),
			mustOpen(t)(impl.OpenKey(11, "coin")), mustOpen(t)(impl.OpenRevoked(11, "coin")), mustOpen(t)(impl.OpenMany([]int{11, 22}, "coin")), mustOpen(t)(impl.OpenMany([]int{11, 11, 11}, "coin")), mustOpen(t)(impl.OpenLast(11, "coin")), mustOpen(t)(impl.OpenRevoked(22, "coin")),
			right[1:], right[:2], right[:1], nil, {}, {""}, {"\x01"}, append([]string{""}, right...), append([]string{coinSig}, right...), append(slices.Clone(right), "\x01"), append(slices.Clone(right), ""),
			{"", "abc", "\x01"}, {"abc", coinSig, "\x01"}, {coinSig, "\x01", "abc"}, {coinSig, "abc", ""}, {coinSig, "abc", strings.Repeat("a", 81)},
		}
		for _, witness := range wrong {
			unlocks(t, m, witness, env, false)
			tellsNothing(t, m.lock, witness, env)
		}
	}
}

func TestPreimagesBelowAnyTrueItem(t *testing.T) {
	m := madeTimed(abc, secretKey(11), 300, secretKey(22))
	for _, item := range itemsOfAllKinds() {
		witness := []string{coinSig, "abc", item}
		if item == "" {
			tellsNothing(t, m.lock, witness, atCoin)
			continue
		}
		unlocks(t, m, witness, atCoin, true)
		tells(t, m, witness, atCoin, "abc")
	}
	// Of strings that have the same digest the one that is shown is told.
	for _, meeting := range meetings {
		for _, hidden := range meeting {
			for _, shown := range meeting {
				timed := madeTimed(digestOf(hidden), secretKey(11), 300, secretKey(22))
				tells(t, timed, mustOpen(t)(impl.OpenPayee(11, shown, "coin")), atCoin, shown)
			}
		}
	}
}

func TestP75LastBranchesOfTimedLocks(t *testing.T) {
	for i, height := range lockHeights {
		payee, payer := signers[i], signers[(i+1)%len(signers)]
		m := madeTimed(abc, secretKey(payee), height, secretKey(payer))
		witness := mustOpen(t)(impl.OpenLast(payer, "coin"))
		notPayer := mustOpen(t)(impl.OpenLast(payee, "coin"))
		other := mustOpen(t)(impl.OpenLast(payer, "Coin"))
		for _, at := range timesFor(height) {
			for _, age := range []int{math.MinInt, -1, 0, 1, 99, height, math.MaxInt} {
				env := impl.Env{Text: "coin", Height: at, Age: age}
				unlocks(t, m, witness, env, at >= height)
				unlocks(t, m, notPayer, env, false)
				unlocks(t, m, other, env, false)
				unlocks(t, m, append([]string{"a"}, witness...), env, false)
				unlocks(t, m, witness[1:], env, false)
				// Whoever opens the last branch shows no preimage.
				for _, shown := range [][]string{witness, notPayer, other, {"abc", witness[0], ""}, {witness[0], "abc", ""}} {
					tellsNothing(t, m.lock, shown, env)
				}
			}
		}
	}
}

func TestP75LastBranchesOfRevocableLocks(t *testing.T) {
	for delay := 1; delay <= impl.AgeMax; delay++ {
		revoke, owner := signers[delay%len(signers)], signers[(delay+3)%len(signers)]
		m := madeRevocable(secretKey(revoke), delay, secretKey(owner))
		witness := mustOpen(t)(impl.OpenLast(owner, "coin"))
		notOwner := mustOpen(t)(impl.OpenLast(revoke, "coin"))
		other := mustOpen(t)(impl.OpenLast(owner, "Coin"))
		for _, age := range timesFor(delay) {
			for _, height := range []int{math.MinInt, 0, delay, math.MaxInt} {
				env := impl.Env{Text: "coin", Height: height, Age: age}
				unlocks(t, m, witness, env, age >= delay)
				tellsNothing(t, m.lock, witness, env)
			}
			env := impl.Env{Text: "coin", Age: age}
			for _, wrong := range [][]string{notOwner, other, append([]string{"a"}, witness...), witness[1:], witness[:1]} {
				unlocks(t, m, wrong, env, false)
			}
		}
	}
}

func TestP76RevokedLocksAreOpenedAtAnyAge(t *testing.T) {
	for i, secret := range signers {
		owner := signers[(i+4)%len(signers)]
		for _, delay := range lockDelays {
			m := madeRevocable(secretKey(secret), delay, secretKey(owner))
			for _, text := range someMessages()[:10] {
				witness := mustOpen(t)(impl.OpenRevoked(secret, text))
				notRevoker := mustOpen(t)(impl.OpenRevoked(owner, text))
				for _, age := range timesFor(delay) {
					env := impl.Env{Text: text, Height: -age, Age: age}
					unlocks(t, m, witness, env, true)
					unlocks(t, m, notRevoker, env, false)
					unlocks(t, m, witness, impl.Env{Text: text + ".", Age: age}, false)
					tellsNothing(t, m.lock, witness, env)
				}
			}
		}
	}
}

// someWitnesses are the witnesses of three secrets and two messages, and others that are not far from them.
func someWitnesses(t *testing.T) [][]string {
	t.Helper()
	list := [][]string{nil, {""}, {"\x01"}, {"abc"}, {"abc", "\x01"}, {"abc", ""}, {"\x01", "abc"}, {"", ""}}
	open := mustOpen(t)
	for _, text := range []string{"coin", "Coin"} {
		for _, secret := range []int{11, 22, 33} {
			list = append(list, open(impl.OpenKey(secret, text)), open(impl.OpenLast(secret, text)), open(impl.OpenRevoked(secret, text)), open(impl.OpenPayee(secret, "abc", text)), open(impl.OpenPayee(secret, "abd", text)), open(impl.OpenPayee(secret, "", text)))
		}
		for _, secrets := range [][]int{{11, 11}, {11, 22}, {22, 11}, {11, 33}, {22, 33}, {33, 22}, {11, 22, 33}, {33, 22, 11}, {33, 22, 22}, {33, 22, 33}, {22, 22, 33}, {33, 22, 11, 22, 33}} {
			list = append(list, open(impl.OpenMany(secrets, text)))
		}
	}
	for _, witness := range slices.Clone(list) {
		for at := range len(witness) + 1 {
			for _, item := range []string{"", "\x01", "abc", coinSig, strings.Repeat("a", 81)} {
				list = append(list, slices.Insert(slices.Clone(witness), at, item))
				if at < len(witness) {
					list = append(list, slices.Replace(slices.Clone(witness), at, at+1, item))
				}
			}
			if at < len(witness) {
				list = append(list, slices.Delete(slices.Clone(witness), at, at+1))
			}
		}
	}
	return list
}

func TestAllLocksAndAllWitnesses(t *testing.T) {
	witnesses := someWitnesses(t)
	opened := map[string]int{}
	for _, m := range oneOfEach() {
		ops := mustParse(t, m.text)
		for _, witness := range witnesses {
			for _, env := range []impl.Env{atCoin, {Text: "coin", Height: 300, Age: 99}, {Text: "Coin", Height: 9999, Age: -1}} {
				if opens(t, m.lock, ops, witness, env) {
					opened[m.name]++
				}
			}
		}
	}
	for _, name := range []string{"key", "digest", "shared", "timed", "revocable"} {
		if opened[name] < 5 {
			t.Errorf("just %d witnesses open the locks with the name %q", opened[name], name)
		}
	}
}

// shows tells by the words of the document what preimage a witness shows.
func shows(t *testing.T, m madeLock, witness []string, env impl.Env) (string, bool) {
	t.Helper()
	stack, code := ran(mustParse(t, m.text), witness, env)
	isOpened := code == 0 && len(stack) == 1 && stack[0] != ""
	if m.name != "timed" || !isOpened || witness[len(witness)-1] == "" {
		return "", false
	}
	return witness[len(witness)-2], true
}

func TestP77PreimagesAreThoseOfTimedLocks(t *testing.T) {
	witnesses := someWitnesses(t)
	told, not := 0, 0
	for _, m := range oneOfEach() {
		for _, witness := range witnesses {
			for _, env := range []impl.Env{atCoin, {Text: "coin", Height: 300, Age: 99}, {Text: "Coin", Height: 9999, Age: -1}} {
				want, is := shows(t, m, witness, env)
				if !is {
					tellsNothing(t, m.lock, witness, env)
					not++
					continue
				}
				told++
				tells(t, m, witness, env, want)
				if impl.LockName(m.lock) != "timed" || m.lock[4:8] != fourBytes(digestOf(want)) {
					t.Errorf("the preimage %q of %q is not of what stands in it", want, m.text)
				}
			}
		}
	}
	if told < 10 || not < 1000 {
		t.Errorf("%d preimages of %d are told", told, told+not)
	}
}

func TestP77OtherLocksThatAreOpenedShowNoPreimage(t *testing.T) {
	a, b := secretKey(11), secretKey(22)
	open := mustOpen(t)
	for _, c := range []struct {
		made    madeLock
		witness []string
	}{
		{madeKey(a), open(impl.OpenKey(11, "coin"))}, {madeDigest(abc), []string{"abc"}}, {madeDigest(digestOf("\x01")), []string{"\x01"}}, {madeMany(1, a, b), open(impl.OpenMany([]int{22}, "coin"))}, {madeMany(2, a, b), open(impl.OpenMany([]int{11, 22}, "coin"))},
		{madeRevocable(a, 5, b), open(impl.OpenRevoked(11, "coin"))}, {madeRevocable(a, 5, b), open(impl.OpenLast(22, "coin"))}, {madeTimed(abc, a, 10, b), open(impl.OpenLast(22, "coin"))},
	} {
		unlocks(t, c.made, c.witness, atCoin, true)
		tellsNothing(t, c.made.lock, c.witness, atCoin)
	}
	// Scripts that are opened just as timed locks are, but are none.
	payee := open(impl.OpenPayee(11, "abc", "coin"))
	for _, text := range []string{
		"if digest x3a6b539e equal verify x00400000 sign else after:300 x0008a000 sign end not not", "if digest x3a6b539e equal verify x00400000 sign else older:5 x0008a000 sign end", "if digest x3a6b539e equal verify x00400000 sign end", "if digest x3a6b539e equal verify x00400000 sign else x0008a000 sign end",
		"if digest x3a6b539e equal verify x00400000 x drop sign else after:300 x0008a000 sign end", "if digest x3a6b539e equal verify x00400000 sign else after:300 x00000002 sign end", "verify digest x3a6b539e equal verify x00400000 sign", "drop drop x00400000 sign", "if drop drop x01 end",
	} {
		lock := scriptBytesOf(mustParse(t, text))
		if !impl.Unlock(lock, payee, atCoin) {
			t.Errorf("Unlock of %q by the payee does not hold", text)
		}
		tellsNothing(t, lock, payee, atCoin)
	}
	for _, s := range []string{"", "\x00", "\x0f", timedLock, "\x06\x0a\x00\x04\x3a\x6b\x53\x9e"} {
		for _, witness := range [][]string{nil, {"\x01"}, {"abc", "\x01"}, payee} {
			tellsNothing(t, s, witness, atCoin)
		}
	}
}

func TestP78KeyLocksAreOpenedByOneValidSignature(t *testing.T) {
	open := mustOpen(t)
	for _, secret := range signers {
		m := madeKey(secretKey(secret))
		for _, text := range someMessages()[:8] {
			env := impl.Env{Text: text, Height: 10, Age: 5}
			right := sigItem(secret, text)
			unlocks(t, m, []string{right}, env, true)
			unlocks(t, m, nil, env, false)
			for _, item := range append(itemsOfAllKinds()[:40], right, sigItem(33, text)) {
				unlocks(t, m, []string{item, right}, env, false)
				unlocks(t, m, []string{right, item}, env, false)
				unlocks(t, m, []string{right, item, right}, env, false)
			}
			for _, item := range notSigs(secret, text) {
				unlocks(t, m, []string{item}, env, false)
				unlocks(t, m, []string{right, item}, env, false)
			}
			for _, other := range someMessages() {
				unlocks(t, m, open(impl.OpenKey(secret, other)), env, other == text)
			}
			for _, other := range signers {
				unlocks(t, m, open(impl.OpenKey(other, text)), env, other == secret)
			}
			for n := range 26 {
				unlocks(t, m, slices.Repeat([]string{right}, n), env, n == 1)
			}
			for _, length := range []int{79, 80, 81, 82, 256} {
				unlocks(t, m, []string{strings.Repeat("a", length)}, env, false)
			}
		}
	}
}

func TestP78KeyLocksAndAnyValidSignature(t *testing.T) {
	// Other nonces than those of Sign lead to valid signatures, too.
	for _, secret := range signers {
		m := madeKey(secretKey(secret))
		for nonce := range 20 {
			sig := signedWith(secret, nonce, "coin").Sig
			item := fourBytes(sig.R) + fourBytes(sig.S)
			unlocks(t, m, []string{item}, atCoin, true)
			unlocks(t, m, []string{item}, impl.Env{Text: "Coin"}, false)
			unlocks(t, m, []string{fourBytes(sig.R) + fourBytes((sig.S+1)%impl.GroupOrder)}, atCoin, false)
			unlocks(t, m, []string{fourBytes(sig.S) + fourBytes(sig.R)}, atCoin, false)
		}
	}
}

func TestDigestLocksAreOpenedByPreimages(t *testing.T) {
	for _, preimage := range somePreimages {
		m := madeDigest(digestOf(preimage))
		for _, env := range someEnvs {
			unlocks(t, m, []string{preimage}, env, true)
			unlocks(t, m, []string{"", preimage}, env, false)
			unlocks(t, m, []string{preimage, ""}, env, false)
			unlocks(t, m, []string{preimage + "a"}, env, false)
			unlocks(t, m, []string{fourBytes(digestOf(preimage))}, env, false)
			unlocks(t, m, nil, env, false)
			tellsNothing(t, m.lock, []string{preimage}, env)
		}
		for _, other := range somePreimages {
			unlocks(t, m, []string{other}, atCoin, other == preimage)
		}
	}
	for _, meeting := range meetings {
		unlocks(t, madeDigest(digestOf(meeting[0])), meeting[1:], atCoin, true)
	}
	unlocks(t, madeDigest(digestOf(noPreimages[0])), noPreimages[:1], atCoin, false)
}

func TestWitnessesOfOtherKindsOfLocks(t *testing.T) {
	// All with the same secret and preimage: just the form differs.
	a, open := secretKey(11), mustOpen(t)
	witnesses := map[string][]string{
		"key": open(impl.OpenKey(11, "coin")), "digest": {"abc"}, "many": open(impl.OpenMany([]int{11, 11}, "coin")),
		"payee": open(impl.OpenPayee(11, "abc", "coin")), "last": open(impl.OpenLast(11, "coin")), "revoked": open(impl.OpenRevoked(11, "coin")),
	}
	for _, c := range []struct {
		made madeLock
		by   string
	}{
		{madeKey(a), "key"}, {madeDigest(abc), "digest"}, {madeMany(2, a, a), "many"}, {madeMany(1, a, a), "key"}, {madeTimed(abc, a, 10, a), "payee last"}, {madeTimed(abc, a, 11, a), "payee"}, {madeRevocable(a, 5, a), "revoked last many"}, {madeRevocable(a, 6, a), "revoked many"},
	} {
		for name, witness := range witnesses {
			unlocks(t, c.made, witness, atCoin, slices.Contains(strings.Fields(c.by), name))
		}
	}
}

// behindIt is a list with more elements behind its length, as another slice may share them.
func behindIt[T any](list []T, more ...T) []T {
	whole := append(slices.Clone(list), more...)
	return whole[:len(list)]
}

func TestLocksAndWitnessesLeaveArgumentsAsTheyAre(t *testing.T) {
	for n := range 7 {
		keys := behindIt(keysOf(signers[:n]), 77, 78)
		secrets := behindIt(signers[:n], 77, 78)
		wantKeys, wantSecrets := slices.Clone(keys[:n+2]), slices.Clone(secrets[:n+2])
		for need := range n + 2 {
			impl.LockMany(need, keys)
		}
		impl.OpenMany(secrets, "coin")
		if !slices.Equal(keys[:n+2], wantKeys) || !slices.Equal(secrets[:n+2], wantSecrets) {
			t.Errorf("%d became %d, and %d became %d", wantKeys, keys[:n+2], wantSecrets, secrets[:n+2])
		}
	}
	for _, m := range oneOfEach() {
		for _, witness := range someWitnesses(t) {
			given := behindIt(witness, "behind", "further behind")
			impl.LockPreimage(m.lock, given, atCoin)
			impl.Unlock(m.lock, given, atCoin)
			if want := append(slices.Clone(witness), "behind", "further behind"); !slices.Equal(given[:len(witness)+2], want) {
				t.Fatalf("the witness %q became %q", want, given[:len(witness)+2])
			}
		}
	}
}

func TestWitnessesThatWereHandedOutAreOnesOwn(t *testing.T) {
	calls := map[string]func() ([]string, bool){
		"OpenKey":     func() ([]string, bool) { return impl.OpenKey(11, "coin") },
		"OpenMany":    func() ([]string, bool) { return impl.OpenMany([]int{11, 22, 33}, "coin") },
		"OpenPayee":   func() ([]string, bool) { return impl.OpenPayee(11, "abc", "coin") },
		"OpenLast":    func() ([]string, bool) { return impl.OpenLast(11, "coin") },
		"OpenRevoked": func() ([]string, bool) { return impl.OpenRevoked(11, "coin") },
	}
	for name, call := range calls {
		first, second := mustOpen(t)(call()), mustOpen(t)(call())
		want := slices.Clone(first)
		whole := first[:cap(first)]
		for i := range whole {
			whole[i] = "changed"
		}
		if !slices.Equal(second, want) {
			t.Errorf("a change of a witness of %s changes another one", name)
		}
		for other, call := range calls {
			if again := mustOpen(t)(call()); other == name && !slices.Equal(again, want) || slices.Contains(again, "changed") {
				t.Errorf("a change of a witness of %s changes what %s returns: %q", name, other, again)
			}
		}
		_ = append(second, "more")
		if third := mustOpen(t)(call()); !slices.Equal(third, want) {
			t.Errorf("an item put behind a witness of %s changes the next one", name)
		}
	}
	secrets := []int{11, 22}
	witness := mustOpen(t)(impl.OpenMany(secrets, "coin"))
	keys := []int{4194304, 565248}
	m := madeMany(2, keys...)
	secrets[0], secrets[1], keys[0], keys[1] = 33, 33, 3, 3
	unlocks(t, m, witness, atCoin, true)
}
