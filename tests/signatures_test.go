package tests

import (
	"encoding/binary"
	"math"
	"math/big"
	"math/rand"
	"slices"
	"strconv"
	"strings"
	"testing"

	"loop.example/workchain/impl"
)

// noScalars are numbers below and above the scalars.
var noScalars = []int{-1, -2, -impl.GroupOrder, 1 - impl.GroupOrder, math.MinInt, impl.GroupOrder, impl.GroupOrder + 1, 2 * impl.GroupOrder, impl.GroupMod, 1 << 40, 1 << 62, math.MaxInt}

// signers are secrets at the edges and between them.
var signers = []int{1, 2, 3, 11, 1000000, 123456789, 536870894, 536870895, impl.GroupOrder - 2, impl.GroupOrder - 1}

// someMessages returns messages of many lengths and bytes, one longer than a string that can be encoded.
func someMessages() []string {
	return []string{"", "a", "coin", "Coin", "\x00", "\x00\x00", "\xff\xfe", "challenge", "nonce", "\xe2\x82\xac", manyBytes()[:256], strings.Repeat("a", impl.TextMax+1)}
}

// fourBytes is a number of 32 bits, the most significant byte first.
func fourBytes(n int) string {
	return string(binary.BigEndian.AppendUint32(nil, uint32(n)))
}

// challengeOf is the challenge, reckoned as the document tells it.
func challengeOf(r int, key int, text string) int {
	return digestOf("challenge"+fourBytes(r)+fourBytes(key)+text) % impl.GroupOrder
}

// nonceOf is the nonce of Sign, reckoned as the document tells it.
func nonceOf(secret int, text string) int {
	return 1 + digestOf("nonce"+fourBytes(secret)+text)%(impl.GroupOrder-1)
}

// answerOf is the S that belongs to a nonce, a challenge and a secret.
func answerOf(nonce int, challenge int, secret int) int {
	return (nonce + productOf(challenge, secret, impl.GroupOrder)) % impl.GroupOrder
}

// signedWith is a message that is signed with any nonce, also with 0, by which R is 1.
func signedWith(secret int, nonce int, text string) impl.Signed {
	key, r := powerOf(impl.GroupBase, secret), powerOf(impl.GroupBase, nonce)
	return impl.Signed{Key: key, Text: text, Sig: impl.Sig{R: r, S: answerOf(nonce, challengeOf(r, key, text), secret)}}
}

// verified is Verify of a signed message.
func verified(m impl.Signed) bool {
	return impl.Verify(m.Key, m.Text, m.Sig)
}

func mustSign(t *testing.T, secret int, text string) impl.Signed {
	t.Helper()
	key, ok := impl.KeyOf(secret)
	sig, is := impl.Sign(secret, text)
	if !ok || !is {
		t.Fatalf("KeyOf(%d) is %t and Sign with %q is %t", secret, ok, text, is)
	}
	return impl.Signed{Key: key, Text: text, Sig: sig}
}

func TestBatchMaxIsEight(t *testing.T) {
	if impl.BatchMax != 8 {
		t.Errorf("BatchMax is %d", impl.BatchMax)
	}
}

func TestChallengeTellsTheNumbers(t *testing.T) {
	for _, c := range []struct {
		r, key int
		text   string
		want   int
	}{
		{1, 1, "", 950182769}, {1, 1, "coin", 508795959}, {1, 4, "", 785619170}, {4, 1, "", 886036569}, {4, 1, "coin", 173679153},
		{4, 16, "", 895612592}, {16, 4, "", 489869650}, {4, 16, "coin", 224227571}, {16, 4, "coin", 33284678},
		{4194304, 1910887002, "\x00", 282930380}, {impl.GroupMod - 2, impl.GroupMod - 6, "\xff\xfe\xfd", 457416474}, {138, 9, "challenge", 325879586},
		// Digests that are 0 and GroupOrder-1 modulo GroupOrder, each in two ways.
		{16384, 4194304, "m407540715", 0}, {16384, 4194304, "m1347174077", 0},
		{16384, 4194304, "m526388456", impl.GroupOrder - 1}, {16384, 4194304, "m844847642", impl.GroupOrder - 1},
	} {
		if got := impl.Challenge(c.r, c.key, c.text); got != c.want {
			t.Errorf("Challenge(%d, %d, %q) is %d, want %d", c.r, c.key, c.text, got, c.want)
		}
	}
}

func TestP33ChallengeOfElementsIsAScalar(t *testing.T) {
	elements := someElements()[:24]
	for _, text := range someMessages()[:10] {
		for _, r := range elements {
			for _, key := range elements {
				got := impl.Challenge(r, key, text)
				if got < 0 || got >= impl.GroupOrder {
					t.Errorf("Challenge(%d, %d, %q) is %d, which is no scalar", r, key, text, got)
				}
				if want := challengeOf(r, key, text); got != want {
					t.Errorf("Challenge(%d, %d, %q) is %d, want %d", r, key, text, got, want)
				}
			}
		}
	}
}

func TestChallengeOfLongMessages(t *testing.T) {
	for _, text := range []string{manyBytes()[:256], strings.Repeat("a", impl.TextMax+1), manyBytes()} {
		if got, want := impl.Challenge(4, 16, text), challengeOf(4, 16, text); got != want {
			t.Errorf("Challenge of %d bytes is %d, want %d", len(text), got, want)
		}
	}
}

func TestChallengeRefusesWhatIsNoElement(t *testing.T) {
	for _, no := range noElements {
		for _, text := range []string{"", "coin"} {
			for _, other := range []int{1, impl.GroupBase, impl.GroupMod - 2, no} {
				if got := impl.Challenge(no, other, text); got != -1 {
					t.Errorf("Challenge(%d, %d, %q) is %d", no, other, text, got)
				}
				if got := impl.Challenge(other, no, text); got != -1 {
					t.Errorf("Challenge(%d, %d, %q) is %d", other, no, text, got)
				}
			}
		}
	}
}

func TestSignTellsTheNumbers(t *testing.T) {
	for _, c := range []struct {
		secret int
		text   string
		want   impl.Sig
	}{
		{1, "", impl.Sig{R: 106775374, S: 909972378}},
		{1, "coin", impl.Sig{R: 1272072206, S: 110168277}},
		{2, "", impl.Sig{R: 1300368652, S: 467229015}},
		{2, "coin", impl.Sig{R: 1718811407, S: 827614337}},
		{11, "", impl.Sig{R: 145464642, S: 946539444}},
		{11, "coin", impl.Sig{R: 413079814, S: 4937067}},
		{11, "Coin", impl.Sig{R: 1723547631, S: 599178596}},
		{11, "\x00", impl.Sig{R: 672399279, S: 100132146}},
		{1000000, "coin", impl.Sig{R: 1849906734, S: 568628746}},
		{536870895, "\xff\xfe", impl.Sig{R: 1529644368, S: 992394723}},
		{impl.GroupOrder - 2, "coin", impl.Sig{R: 1277132460, S: 143768529}},
		{impl.GroupOrder - 1, "", impl.Sig{R: 353579647, S: 276496847}},
		{impl.GroupOrder - 1, "coin", impl.Sig{R: 349557948, S: 335799593}},
		{123456789, strings.Repeat("a", 5000), impl.Sig{R: 1458532685, S: 263810057}},
		// The nonce is 1, and GroupOrder-1.
		{11, "pay 2114530724", impl.Sig{R: 4, S: 721042045}},
		{11, "pay 3947867484", impl.Sig{R: 4, S: 779867354}},
		{11, "m146250194", impl.Sig{R: 536870895, S: 49152816}},
		{impl.GroupOrder - 1, "pay 2053055087", impl.Sig{R: 4, S: 92913127}},
		{impl.GroupOrder - 1, "pay 779490767", impl.Sig{R: 536870895, S: 653398352}},
		// S is 0, and GroupOrder-1.
		{11, "m462288348", impl.Sig{R: 531649272, S: 0}},
		{11, "m2520825547", impl.Sig{R: 1315325877, S: impl.GroupOrder - 1}},
		// The challenge is 0, and GroupOrder-1.
		{11, "m40834192", impl.Sig{R: 75203970, S: 822114705}},
		{11, "m878401459", impl.Sig{R: 731227562, S: 407501127}},
	} {
		got, ok := impl.Sign(c.secret, c.text)
		if !ok || got != c.want {
			t.Errorf("Sign(%d, %.20q) is %v, %t, want %v", c.secret, c.text, got, ok, c.want)
		}
		if !verified(mustSign(t, c.secret, c.text)) {
			t.Errorf("Verify does not hold of Sign(%d, %.20q)", c.secret, c.text)
		}
	}
}

func TestSignFollowsTheDocument(t *testing.T) {
	for _, secret := range append(someScalars()[:40], signers...) {
		for _, text := range someMessages()[:10] {
			got := mustSign(t, secret, text)
			if want := signedWith(secret, nonceOf(secret, text), text); got != want {
				t.Errorf("Sign(%d, %q) is %v, want %v", secret, text, got.Sig, want.Sig)
			}
		}
	}
}

func TestSignRefusesOtherSecrets(t *testing.T) {
	for _, secret := range noSecrets {
		for _, text := range []string{"", "coin"} {
			if sig, ok := impl.Sign(secret, text); ok || sig != (impl.Sig{}) {
				t.Errorf("Sign(%d, %q) is %v, %t", secret, text, sig, ok)
			}
		}
	}
}

func TestP34VerifyHoldsOfSign(t *testing.T) {
	for _, secret := range append(someScalars()[:100], signers...) {
		for _, text := range someMessages() {
			if m := mustSign(t, secret, text); !verified(m) {
				t.Errorf("Verify does not hold of Sign(%d, %.20q), %v", secret, text, m.Sig)
			}
		}
	}
}

func TestP34VerifyRefusesAnotherS(t *testing.T) {
	for _, secret := range signers {
		for _, text := range someMessages()[:10] {
			m := mustSign(t, secret, text)
			right := m.Sig.S
			for _, s := range slices.Concat(noScalars, someScalars()[:20], []int{
				0, (right + 1) % impl.GroupOrder, (right + impl.GroupOrder - 1) % impl.GroupOrder, right + impl.GroupOrder, right - impl.GroupOrder,
				right + 2*impl.GroupOrder, right + impl.GroupOrder<<32, -right - 1, impl.GroupOrder - 1 - right, right ^ 1, right ^ 1<<29,
			}) {
				m.Sig.S = s
				if s != right && verified(m) {
					t.Errorf("Verify of a message with another S, %d and not %d, holds", s, right)
				}
			}
		}
	}
}

func TestVerifyRefusesAnotherR(t *testing.T) {
	for _, secret := range signers {
		for _, text := range someMessages()[:10] {
			m := mustSign(t, secret, text)
			right := m.Sig.R
			for _, r := range slices.Concat(noElements, someElements()[:20], []int{
				right + impl.GroupMod, right - impl.GroupMod, impl.GroupMod - right, -right, right + 1<<32, mustInv(t, right), mustMul(t, right, impl.GroupBase),
			}) {
				m.Sig.R = r
				if r != right && verified(m) {
					t.Errorf("Verify of a message with another R, %d and not %d, holds", r, right)
				}
			}
		}
	}
}

func TestVerifyRefusesAnotherKeyOrMessage(t *testing.T) {
	for _, secret := range signers {
		for _, text := range someMessages()[:10] {
			m := mustSign(t, secret, text)
			for _, key := range slices.Concat(noElements, someElements()[:20], []int{
				m.Key + impl.GroupMod, m.Key - impl.GroupMod, impl.GroupMod - m.Key, -m.Key, m.Key + 1<<32, mustInv(t, m.Key), m.Sig.R,
			}) {
				if key != m.Key && impl.Verify(key, text, m.Sig) {
					t.Errorf("Verify with another key, %d and not %d, holds", key, m.Key)
				}
			}
			for _, other := range append(someMessages(), text+"\x00", text+text+"x", " "+text) {
				if other != text && impl.Verify(m.Key, other, m.Sig) {
					t.Errorf("Verify with another message, %.20q and not %q, holds", other, text)
				}
			}
		}
	}
}

func TestVerifyTakesEachNonce(t *testing.T) {
	for _, secret := range signers {
		for _, nonce := range []int{0, 1, 2, 7, secret, impl.GroupOrder - secret, impl.GroupOrder - 1} {
			for _, text := range someMessages()[:5] {
				m := signedWith(secret, nonce, text)
				if !verified(m) {
					t.Errorf("Verify does not hold of %v, which is signed with the nonce %d", m, nonce)
				}
				if nonce == 0 && m.Sig.R != 1 {
					t.Errorf("the nonce 0 leads to R %d", m.Sig.R)
				}
			}
		}
	}
}

func TestVerifyOfSAtTheEdges(t *testing.T) {
	least, greatest := mustSign(t, 11, "m462288348"), mustSign(t, 11, "m2520825547")
	for _, c := range []struct {
		m    impl.Signed
		s    int
		want bool
	}{
		{least, 0, true}, {least, 1, false}, {least, impl.GroupOrder, false}, {least, -impl.GroupOrder, false}, {least, impl.GroupOrder - 1, false},
		{greatest, impl.GroupOrder - 1, true}, {greatest, 0, false}, {greatest, impl.GroupOrder, false}, {greatest, -1, false}, {greatest, impl.GroupOrder - 2, false},
	} {
		c.m.Sig.S = c.s
		if got := verified(c.m); got != c.want {
			t.Errorf("Verify of %v is %t", c.m, got)
		}
	}
}

// poweredBy is the product of R and the power of the key with the challenge, all taken as they are, modulo GroupMod.
func poweredBy(m impl.Signed) int {
	return productOf(m.Sig.R, powerOf(m.Key, challengeOf(m.Sig.R, m.Key, m.Text)), impl.GroupMod)
}

// almostValid returns signed messages for which the two sides of the equation are congruent, but whose key, R or S is not as it must be.
func almostValid(t *testing.T) []impl.Signed {
	t.Helper()
	var list []impl.Signed
	add := func(key int, r int, nonce int, secret int) {
		for n := range 8 {
			text := strconv.Itoa(n)
			m := impl.Signed{Key: key, Text: text, Sig: impl.Sig{R: r, S: answerOf(nonce, challengeOf(r, key, text), secret)}}
			if powerOf(impl.GroupBase, m.Sig.S) == poweredBy(m) {
				list = append(list, m)
			}
		}
	}
	for _, secret := range []int{1, 11, impl.GroupOrder - 1} {
		for _, nonce := range []int{0, 1, 123456789} {
			key, r := powerOf(impl.GroupBase, secret), powerOf(impl.GroupBase, nonce)
			begun := len(list)
			add(1, r, nonce, 0)
			add(key+impl.GroupMod, r, nonce, secret)
			add(key, r+impl.GroupMod, nonce, secret)
			// Negatives are squares of no number: an even power of the key, or two of them together, are elements all the same.
			add(impl.GroupMod-key, r, nonce, secret)
			add(impl.GroupMod-key, impl.GroupMod-r, nonce, secret)
			if len(list) < begun+26 {
				t.Fatalf("just %d messages are almost valid", len(list)-begun)
			}
			m := signedWith(secret, nonce, "coin")
			for _, s := range []int{m.Sig.S + impl.GroupOrder, m.Sig.S - impl.GroupOrder, m.Sig.S + impl.GroupOrder<<32} {
				list = append(list, impl.Signed{Key: key, Text: "coin", Sig: impl.Sig{R: r, S: s}})
			}
		}
	}
	return list
}

func TestVerifyRefusesWhatIsAlmostValid(t *testing.T) {
	for _, m := range almostValid(t) {
		if verified(m) {
			t.Errorf("Verify holds of %v", m)
		}
	}
}

func TestVerifyRefusesTheZeroValue(t *testing.T) {
	if impl.Verify(0, "", impl.Sig{}) || impl.Verify(1, "", impl.Sig{R: 1}) || impl.Verify(4, "", impl.Sig{}) {
		t.Errorf("Verify holds of a signature of zeros")
	}
}

func TestP35SIsTheOnlyScalarForItsR(t *testing.T) {
	list := []impl.Signed{mustSign(t, 11, "m462288348"), mustSign(t, 11, "m2520825547"), mustSign(t, 11, "m40834192"), mustSign(t, 11, "m878401459")}
	for i, secret := range append(someScalars()[:100], signers...) {
		list = append(list, mustSign(t, secret, "coin"), signedWith(secret, i%3, strconv.Itoa(i)))
	}
	for _, m := range list {
		if !verified(m) {
			t.Errorf("Verify does not hold of %v", m)
		}
		right := m.Sig.S
		for _, more := range append(someScalars()[:10], 1, 2, impl.GroupOrder-1, impl.GroupOrder/2) {
			m.Sig.S = (right + more) % impl.GroupOrder
			if verified(m) {
				t.Errorf("Verify holds of %v, which has %d more than the S that is valid, %d", m, more, right)
			}
		}
	}
}

// sameNonce returns messages that are signed by one secret with one nonce, all with different challenges.
func sameNonce(secret int, nonce int, n int) []impl.Signed {
	list := make([]impl.Signed, n)
	for i := range list {
		list[i] = signedWith(secret, nonce, strconv.Itoa(i))
	}
	return list
}

func TestP36KeyOfSecretFromIsTheKey(t *testing.T) {
	orders := map[[2]bool]int{}
	for _, secret := range append(someScalars()[:20], signers...) {
		for _, nonce := range []int{0, 1, 123456789, impl.GroupOrder - 1} {
			list := sameNonce(secret, nonce, 6)
			for i, a := range list {
				for j, b := range list {
					if i == j {
						continue
					}
					got, ok := impl.SecretFrom(a, b)
					if !ok || got != secret {
						t.Errorf("SecretFrom(%v, %v) is %d, %t, want %d", a, b, got, ok, secret)
					}
					if key, is := impl.KeyOf(got); !is || key != a.Key {
						t.Errorf("KeyOf of SecretFrom(%v, %v) is %d, %t, want %d", a, b, key, is, a.Key)
					}
					orders[[2]bool{a.Sig.S < b.Sig.S, challengeOf(a.Sig.R, a.Key, a.Text) < challengeOf(b.Sig.R, b.Key, b.Text)}]++
				}
			}
		}
	}
	for _, order := range [][2]bool{{false, false}, {false, true}, {true, false}, {true, true}} {
		if orders[order] < 100 {
			t.Errorf("just %d pairs have S and challenge of a below those of b as %t", orders[order], order)
		}
	}
}

func TestSecretFromAtTheEdges(t *testing.T) {
	for _, c := range []struct {
		name string
		a, b impl.Signed
	}{
		{"two messages that Sign signs with the nonce 1", mustSign(t, 11, "pay 2114530724"), mustSign(t, 11, "pay 3947867484")},
		{"challenges of 0 and GroupOrder-1", signedWith(11, 7, "m407540715"), signedWith(11, 7, "m526388456")},
		{"a challenge of 0", signedWith(11, 7, "m407540715"), signedWith(11, 7, "coin")},
		{"a challenge of GroupOrder-1", signedWith(11, 7, "m844847642"), signedWith(11, 7, "")},
		{"an S of 0", signedWith(11, 727807409, "m462288348"), signedWith(11, 727807409, "coin")},
		{"an S of GroupOrder-1", signedWith(11, 144530644, "m2520825547"), signedWith(11, 144530644, "coin")},
	} {
		for _, pair := range [][2]impl.Signed{{c.a, c.b}, {c.b, c.a}} {
			if got, ok := impl.SecretFrom(pair[0], pair[1]); !ok || got != 11 {
				t.Errorf("%s: SecretFrom(%v, %v) is %d, %t, want 11", c.name, pair[0], pair[1], got, ok)
			}
		}
	}
}

// withS is the signed message with a number more as its S.
func withS(m impl.Signed, more int) impl.Signed {
	m.Sig.S += more
	return m
}

// nextS is the signed message with the next scalar as its S.
func nextS(m impl.Signed) impl.Signed {
	m.Sig.S = (m.Sig.S + 1) % impl.GroupOrder
	return m
}

func TestSecretFromRefusesWhatDoesNotFit(t *testing.T) {
	for _, secret := range signers {
		list := sameNonce(secret, 7, 3)
		a, b := list[0], list[1]
		otherText, otherKey, otherR := b, b, b
		otherText.Text += "x"
		otherKey.Key = mustMul(t, b.Key, impl.GroupBase)
		otherR.Sig.R = mustMul(t, b.Sig.R, impl.GroupBase)
		for _, c := range []struct {
			name string
			a, b impl.Signed
		}{
			{"the zero value", impl.Signed{}, impl.Signed{}},
			{"a message and the zero value", a, impl.Signed{}},
			{"the same message", a, a},
			{"another key, all being valid", a, signedWith(secret%5+20, 7, "1")},
			{"another R, all being valid", a, signedWith(secret, 8, "1")},
			{"another key and R, all being valid", a, signedWith(secret%5+20, 8, "1")},
			{"R and its inverse", a, signedWith(secret, impl.GroupOrder-7, "1")},
			{"another S", a, nextS(b)},
			{"another S on both sides", nextS(a), nextS(b)},
			{"the same message with another S", a, nextS(a)},
			{"an S that is greater by GroupOrder", a, withS(b, impl.GroupOrder)},
			{"an S that is greater by GroupOrder on both sides", withS(a, impl.GroupOrder), withS(b, impl.GroupOrder)},
			{"a negative S", a, withS(b, -impl.GroupOrder)},
			{"a signature of another message", a, otherText},
			{"a signature of another key", a, otherKey},
			{"a signature with another R", a, otherR},
		} {
			for _, pair := range [][2]impl.Signed{{c.a, c.b}, {c.b, c.a}} {
				if got, ok := impl.SecretFrom(pair[0], pair[1]); ok || got != 0 {
					t.Errorf("%s: SecretFrom(%v, %v) is %d, %t", c.name, pair[0], pair[1], got, ok)
				}
			}
		}
	}
}

func TestSecretFromRefusesWhatIsAlmostValid(t *testing.T) {
	list := almostValid(t)
	pairs := 0
	for i, a := range list {
		for _, b := range append(slices.Clone(list[i:]), signedWith(1, 0, "0"), signedWith(11, 1, "0"), signedWith(impl.GroupOrder-1, 123456789, "0")) {
			if a.Key == b.Key && a.Sig.R == b.Sig.R {
				pairs++
			}
			for _, pair := range [][2]impl.Signed{{a, b}, {b, a}} {
				if got, ok := impl.SecretFrom(pair[0], pair[1]); ok || got != 0 {
					t.Errorf("SecretFrom(%v, %v) is %d, %t", pair[0], pair[1], got, ok)
				}
			}
		}
	}
	if pairs < 500 {
		t.Errorf("just %d pairs have the same key and R", pairs)
	}
}

func TestSecretFromRefusesTheSameChallenge(t *testing.T) {
	for _, texts := range [][2]string{{"m407540715", "m1347174077"}, {"m526388456", "m844847642"}} {
		a, b := signedWith(11, 7, texts[0]), signedWith(11, 7, texts[1])
		if a.Sig != b.Sig || !verified(a) || !verified(b) {
			t.Errorf("%v and %v are not valid with the same challenge", a, b)
		}
		for _, pair := range [][2]impl.Signed{{a, b}, {b, a}, {a, a}} {
			if got, ok := impl.SecretFrom(pair[0], pair[1]); ok || got != 0 {
				t.Errorf("SecretFrom(%v, %v) is %d, %t", pair[0], pair[1], got, ok)
			}
		}
	}
}

// batchOf returns so many valid signed messages by different secrets, some of them with R, S or the challenge at an edge.
func batchOf(t *testing.T, n int) []impl.Signed {
	t.Helper()
	list := []impl.Signed{
		mustSign(t, 11, "coin"), signedWith(7, 0, ""), mustSign(t, 11, "m2520825547"), mustSign(t, impl.GroupOrder-1, "\x00"),
		mustSign(t, 11, "m462288348"), mustSign(t, 11, "m40834192"), mustSign(t, 1, "coin"), signedWith(536870895, impl.GroupOrder-1, "coin"),
	}
	for len(list) < n {
		list = append(list, mustSign(t, 1000+len(list), "more"))
	}
	return list[:n]
}

// weightsFor returns lists of so many weights: the same one each time, and different ones.
func weightsFor(n int) [][]int {
	var lists [][]int
	for _, weight := range []int{0, 1, 2, 1 << 29, impl.GroupOrder - 2, impl.GroupOrder - 1} {
		lists = append(lists, slices.Repeat([]int{weight}, n))
	}
	scalars := append([]int{0}, someScalars()...)
	for i := 0; i+n <= len(scalars); i += n {
		lists = append(lists, scalars[i:i+n])
	}
	return lists
}

// batchHolds is the equation of VerifyBatch, reckoned with whole numbers of any size.
func batchHolds(list []impl.Signed, weights []int) bool {
	mod := big.NewInt(impl.GroupMod)
	exponent, product := new(big.Int), big.NewInt(1)
	multiply := func(a int, e *big.Int) {
		product.Mul(product, new(big.Int).Exp(big.NewInt(int64(a)), e, mod))
		product.Mod(product, mod)
	}
	for i, m := range list {
		weight := big.NewInt(int64(weights[i]))
		exponent.Add(exponent, new(big.Int).Mul(weight, big.NewInt(int64(m.Sig.S))))
		multiply(m.Sig.R, weight)
		multiply(m.Key, new(big.Int).Mul(weight, big.NewInt(int64(challengeOf(m.Sig.R, m.Key, m.Text)))))
	}
	return new(big.Int).Exp(big.NewInt(impl.GroupBase), exponent, mod).Cmp(product) == 0
}

func TestP37VerifyBatchHoldsOfValidSignatures(t *testing.T) {
	for n := 1; n <= impl.BatchMax; n++ {
		list := batchOf(t, n)
		for _, weights := range weightsFor(n) {
			if !impl.VerifyBatch(list, weights) {
				t.Errorf("VerifyBatch of %d valid signatures with the weights %d does not hold", n, weights)
			}
		}
		same := slices.Repeat(list[:1], n)
		if !impl.VerifyBatch(same, weightsFor(n)[5]) {
			t.Errorf("VerifyBatch of the same valid signature %d times does not hold", n)
		}
	}
}

func TestVerifyBatchRefusesOtherLengths(t *testing.T) {
	if impl.VerifyBatch(nil, nil) || impl.VerifyBatch([]impl.Signed{}, []int{}) || impl.VerifyBatch(nil, []int{0}) {
		t.Errorf("VerifyBatch of an empty list holds")
	}
	for n := 1; n <= impl.BatchMax+3; n++ {
		for m := range impl.BatchMax + 4 {
			want := n == m && n <= impl.BatchMax
			for _, weight := range []int{0, 1} {
				if got := impl.VerifyBatch(batchOf(t, n), slices.Repeat([]int{weight}, m)); got != want {
					t.Errorf("VerifyBatch of %d signatures and %d weights is %t", n, m, got)
				}
			}
		}
	}
}

func TestVerifyBatchRefusesOtherWeights(t *testing.T) {
	for _, n := range []int{1, 2, impl.BatchMax} {
		list := batchOf(t, n)
		for i := range n {
			for _, no := range noScalars {
				weights := slices.Repeat([]int{1}, n)
				weights[i] = no
				if impl.VerifyBatch(list, weights) {
					t.Errorf("VerifyBatch with the weights %d holds", weights)
				}
			}
		}
	}
}

func TestVerifyBatchRefusesWhatVerifyDoesNotTake(t *testing.T) {
	bad := almostValid(t)
	m := mustSign(t, 11, "coin")
	for _, no := range append(noElements, 1) {
		bad = append(bad, impl.Signed{Key: no, Text: m.Text, Sig: m.Sig})
	}
	for _, no := range noElements {
		bad = append(bad, impl.Signed{Key: m.Key, Text: m.Text, Sig: impl.Sig{R: no, S: m.Sig.S}})
	}
	for _, no := range noScalars {
		bad = append(bad, impl.Signed{Key: m.Key, Text: m.Text, Sig: impl.Sig{R: m.Sig.R, S: no}})
	}
	for _, m := range append(bad, impl.Signed{}) {
		for _, n := range []int{1, 2, impl.BatchMax} {
			for i := range n {
				list, weights := batchOf(t, n), slices.Repeat([]int{1}, n)
				list[i] = m
				for _, weight := range []int{0, 1, 2, impl.GroupOrder - 1} {
					weights[i] = weight
					if impl.VerifyBatch(list, weights) {
						t.Errorf("VerifyBatch holds with %v, whose weight is %d", m, weight)
					}
				}
				if impl.VerifyBatch(list, make([]int, n)) {
					t.Errorf("VerifyBatch with weights of 0 holds with %v", m)
				}
			}
		}
	}
}

// notValid returns the signed message in ways in which it is not valid, but its key, R and S are as Verify demands.
func notValid(t *testing.T, m impl.Signed) []impl.Signed {
	t.Helper()
	otherText, otherKey, otherR := m, m, m
	otherText.Text += "x"
	otherKey.Key = mustMul(t, m.Key, 9)
	otherR.Sig.R = mustMul(t, m.Sig.R, 9)
	list := []impl.Signed{nextS(m), otherText, otherKey, otherR}
	for _, m := range list {
		if verified(m) || !impl.KeyOk(m.Key) {
			t.Fatalf("%v is valid, or has no key", m)
		}
	}
	return list
}

func TestP38VerifyBatchHoldsForOneWeightOfAWrongSignature(t *testing.T) {
	for _, n := range []int{1, 2, 5, impl.BatchMax} {
		for i := range n {
			for _, wrong := range notValid(t, batchOf(t, n)[i]) {
				list := batchOf(t, n)
				list[i] = wrong
				for _, others := range []int{0, 1, 123456789, impl.GroupOrder - 1} {
					weights := slices.Repeat([]int{others}, n)
					for _, weight := range append([]int{0}, someScalars()[:40]...) {
						weights[i] = weight
						if got, want := impl.VerifyBatch(list, weights), weight == 0; got != want {
							t.Errorf("VerifyBatch with %v, whose weight is %d, and valid ones, whose weights are %d, is %t", wrong, weight, others, got)
						}
					}
				}
			}
		}
	}
}

func TestVerifyBatchIsOneEquation(t *testing.T) {
	list := batchOf(t, 3)
	list[0], list[2] = nextS(list[0]), withS(list[2], -2)
	for _, c := range []struct {
		weights []int
		want    bool
	}{
		// Twice as much is missing behind the third one as is too much behind the first one.
		{[]int{2, 5, 1}, true}, {[]int{4, 0, 2}, true}, {[]int{0, 1, 0}, true}, {[]int{1, 1, 536870895}, true}, {[]int{impl.GroupOrder - 2, 9, impl.GroupOrder - 1}, true},
		{[]int{1, 5, 1}, false}, {[]int{1, 5, 2}, false}, {[]int{2, 5, 0}, false}, {[]int{0, 5, 1}, false}, {[]int{impl.GroupOrder - 2, 9, 1}, false},
	} {
		if got := impl.VerifyBatch(list, c.weights); got != c.want {
			t.Errorf("VerifyBatch with the weights %d of two signatures that are not valid is %t", c.weights, got)
		}
	}
}

func TestVerifyBatchIsTheEquationOfTheDocument(t *testing.T) {
	r := rand.New(rand.NewSource(7))
	counts := map[bool]int{}
	for range 3000 {
		list := batchOf(t, 1+r.Intn(impl.BatchMax))
		weights := make([]int, len(list))
		for i := range list {
			weights[i] = r.Intn(3)
			if r.Intn(4) == 0 {
				list[i].Sig.S = (list[i].Sig.S + impl.GroupOrder + r.Intn(5) - 2) % impl.GroupOrder
			}
		}
		got := impl.VerifyBatch(list, weights)
		if got != batchHolds(list, weights) {
			t.Errorf("VerifyBatch(%v, %d) is %t", list, weights, got)
		}
		counts[got]++
	}
	if counts[true] < 300 || counts[false] < 300 {
		t.Errorf("VerifyBatch holds %d times and does not %d times", counts[true], counts[false])
	}
}

func TestVerifyBatchLeavesItsArguments(t *testing.T) {
	list, weights := batchOf(t, impl.BatchMax), slices.Clone(weightsFor(impl.BatchMax)[7])
	sameList, sameWeights := slices.Clone(list), slices.Clone(weights)
	impl.VerifyBatch(list, weights)
	if !slices.Equal(list, sameList) || !slices.Equal(weights, sameWeights) {
		t.Errorf("VerifyBatch changed its arguments")
	}
}
