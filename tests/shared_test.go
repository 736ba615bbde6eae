package tests

import (
	"math/big"
	"math/rand"
	"slices"
	"strings"
	"testing"

	"loop.example/workchain/impl"
)

// noKeys are numbers that are no keys: those that are no elements, and 1.
var noKeys = append(slices.Clone(noElements), 1)

// someSharers returns lists of secrets, of 1 to ShareMax participants.
func someSharers() [][]int {
	lists := [][]int{
		{1}, {2}, {11}, {536870895}, {impl.GroupOrder - 1}, {145606926},
		{1, 2}, {2, 1}, {11, 22}, {11, 11}, {11, impl.GroupOrder - 11}, {impl.GroupOrder - 1, 1}, {11, 404240777}, {1, 353138383},
		{1, 2, 3}, {11, 22, 11}, {1, 2, 3, 4, 5, 6, 7, 8}, {8, 7, 6, 5, 4, 3, 2, 1},
		slices.Repeat([]int{11}, impl.ShareMax), slices.Repeat([]int{impl.GroupOrder - 1}, impl.ShareMax),
	}
	scalars := someScalars()
	for i := 0; len(scalars) >= impl.ShareMax; i++ {
		n := 1 + i%impl.ShareMax
		lists = append(lists, scalars[:n])
		scalars = scalars[n:]
	}
	return lists
}

// keysOf is the keys of secrets.
func keysOf(secrets []int) []int {
	keys := make([]int, len(secrets))
	for i, secret := range secrets {
		keys[i] = powerOf(impl.GroupBase, secret)
	}
	return keys
}

// weightOf is the weight of a participant of a list of keys, reckoned as the document tells it.
func weightOf(keys []int, key int) int {
	text := "weight"
	for _, k := range keys {
		text += fourBytes(k)
	}
	return 1 + digestOf(text+fourBytes(key))%(impl.GroupOrder-1)
}

// sharedKeyFrom is the product of the powers of keys with their weights. All powers are taken at once, binary digit by binary digit of the weights from the greatest on, with whole numbers of any size.
func sharedKeyFrom(keys []int) int {
	mod := big.NewInt(impl.GroupMod)
	product := big.NewInt(1)
	times := func(factor *big.Int) {
		product.Mod(product.Mul(product, factor), mod)
	}
	for digit := 31; digit >= 0; digit-- {
		times(product)
		for _, key := range keys {
			if weightOf(keys, key)>>digit%2 == 1 {
				times(big.NewInt(int64(key)))
			}
		}
	}
	return int(product.Int64())
}

// sharedSecretOf is the sum of the products of weights and secrets.
func sharedSecretOf(secrets []int) int {
	keys := keysOf(secrets)
	sum := 0
	for i, secret := range secrets {
		sum = answerOf(sum, weightOf(keys, keys[i]), secret)
	}
	return sum
}

// sharedSignOf is the signature of all participants, reckoned as the document tells it.
func sharedSignOf(secrets []int, text string) impl.Sig {
	keys := keysOf(secrets)
	r := 1
	for _, secret := range secrets {
		r = productOf(r, powerOf(impl.GroupBase, nonceOf(secret, text)), impl.GroupMod)
	}
	challenge := big.NewInt(int64(challengeOf(r, sharedKeyFrom(keys), text)))
	sum := new(big.Int)
	for i, secret := range secrets {
		product := new(big.Int).Mul(challenge, big.NewInt(int64(weightOf(keys, keys[i]))))
		product.Mul(product, big.NewInt(int64(secret)))
		sum.Add(sum, product.Add(product, big.NewInt(int64(nonceOf(secret, text)))))
	}
	return impl.Sig{R: r, S: int(sum.Mod(sum, big.NewInt(impl.GroupOrder)).Int64())}
}

func mustShare(t *testing.T, keys []int) int {
	t.Helper()
	key, ok := impl.SharedKey(keys)
	if !ok {
		t.Fatalf("SharedKey(%d) is false", keys)
	}
	return key
}

func mustShareSign(t *testing.T, secrets []int, text string) impl.Sig {
	t.Helper()
	sig, ok := impl.SharedSign(secrets, text)
	if !ok {
		t.Fatalf("SharedSign(%d, %.20q) is false", secrets, text)
	}
	return sig
}

// refusesKeys tells where SharedKey of a list is not false and 0.
func refusesKeys(t *testing.T, keys []int) {
	t.Helper()
	if key, ok := impl.SharedKey(keys); ok || key != 0 {
		t.Errorf("SharedKey(%d) is %d, %t", keys, key, ok)
	}
}

// refusesSecrets tells where SharedSign of a list is not false and no signature.
func refusesSecrets(t *testing.T, secrets []int) {
	t.Helper()
	for _, text := range []string{"", "coin"} {
		if sig, ok := impl.SharedSign(secrets, text); ok || sig != (impl.Sig{}) {
			t.Errorf("SharedSign(%d, %q) is %v, %t", secrets, text, sig, ok)
		}
	}
}

func TestShareMaxIsEight(t *testing.T) {
	if impl.ShareMax != 8 {
		t.Errorf("ShareMax is %d", impl.ShareMax)
	}
}

func TestSharedKeyTellsTheNumbers(t *testing.T) {
	for _, c := range []struct {
		keys []int
		want int
	}{
		{[]int{4}, 1876719862},
		{[]int{16}, 109827458},
		{[]int{5}, 834559499},
		{[]int{impl.GroupMod - 2}, 33549715},
		{[]int{4194304}, 579455553},
		{[]int{4, 16}, 877959365},
		{[]int{16, 4}, 1577514466},
		{[]int{4, 4}, 1175169269},
		{[]int{4, 536870895}, 1723830912},
		{[]int{3, 9, 27}, 688667764},
		{[]int{27, 9, 3}, 1056271659},
		{[]int{4, 16, 4}, 30310125},
		{[]int{4, 16, 64, 256, 1024, 4096, 16384, 65536}, 1819851829},
		{[]int{65536, 16384, 4096, 1024, 256, 64, 16, 4}, 2002435053},
		{[]int{7, 7, 7, 7, 7, 7, 7, 7}, 940713721},
		// Keys whose weights are GroupOrder-1, 1, and GroupOrder-1.
		{[]int{1346456200}, 1464221839},
		{[]int{4194304, 118540018}, 462758830},
		{[]int{4194304, 835884478}, 1512222296},
		{[]int{4, 1712021692}, 2107409243},
		{[]int{4, 598667885}, 993592117},
	} {
		if got, ok := impl.SharedKey(c.keys); !ok || got != c.want {
			t.Errorf("SharedKey(%d) is %d, %t, want %d", c.keys, got, ok, c.want)
		}
	}
}

func TestSharedKeyIsTheProductOfPowers(t *testing.T) {
	elements := slices.DeleteFunc(someElements(), func(a int) bool { return a == 1 })
	for n := 1; n <= impl.ShareMax; n++ {
		for i := range 12 {
			keys := elements[i*n : i*n+n]
			if got, want := mustShare(t, keys), sharedKeyFrom(keys); got != want {
				t.Errorf("SharedKey(%d) is %d, want %d", keys, got, want)
			}
		}
	}
}

func TestSharedKeyIsThePowerOfTheSecretsByWeight(t *testing.T) {
	for _, secrets := range someSharers() {
		want := powerOf(impl.GroupBase, sharedSecretOf(secrets))
		if got := mustShare(t, keysOf(secrets)); got != want {
			t.Errorf("SharedKey of the keys of %d is %d, want %d", secrets, got, want)
		}
	}
}

func TestSharedKeyWeighsTheListInItsOrder(t *testing.T) {
	seen := map[int][]int{}
	for _, keys := range [][]int{
		{4, 16, 64}, {4, 64, 16}, {16, 4, 64}, {16, 64, 4}, {64, 4, 16}, {64, 16, 4},
		{4}, {4, 4}, {4, 4, 4}, {4, 16}, {16, 4}, {4, 4, 16}, {4, 16, 4}, {16, 4, 4}, {4, 16, 16}, {16},
		{3, 5, 7, 9, 11, 12, 16, 4}, {4, 16, 12, 11, 9, 7, 5, 3}, {5, 3, 7, 9, 11, 12, 16, 4}, {3, 5, 7, 9, 11, 12, 4, 16},
	} {
		got, want := mustShare(t, keys), sharedKeyFrom(keys)
		if got != want {
			t.Errorf("SharedKey(%d) is %d, want %d", keys, got, want)
		}
		if other, there := seen[got]; there {
			t.Errorf("SharedKey(%d) is %d, as that of %d is", keys, got, other)
		}
		seen[got] = keys
	}
}

func TestSharedKeyOfAKeyThatStandsTwice(t *testing.T) {
	for _, key := range []int{4, 5, 4194304, impl.GroupMod - 2} {
		for n := 2; n <= impl.ShareMax; n++ {
			keys := slices.Repeat([]int{key}, n)
			want := mustPow(t, key, n*weightOf(keys, key))
			if got := mustShare(t, keys); got != want {
				t.Errorf("SharedKey(%d) is %d, want %d", keys, got, want)
			}
			keys[n/2] = 9
			if got, want := mustShare(t, keys), sharedKeyFrom(keys); got != want {
				t.Errorf("SharedKey(%d) is %d, want %d", keys, got, want)
			}
		}
	}
}

func TestSharedKeyOfWeightsAtTheEdges(t *testing.T) {
	for _, c := range []struct {
		secrets []int
		weights []int
	}{
		{[]int{145606926}, []int{impl.GroupOrder - 1}},
		{[]int{576329715}, []int{impl.GroupOrder - 1}},
		{[]int{11, 404240777}, []int{1, 362767235}},
		{[]int{11, 431035590}, []int{534937296, impl.GroupOrder - 1}},
		{[]int{1, 45642760}, []int{1, 958219644}},
		{[]int{1, 353138383}, []int{impl.GroupOrder - 1, 559540838}},
	} {
		keys := keysOf(c.secrets)
		want := 1
		for i, key := range keys {
			want = mustMul(t, want, mustPow(t, key, c.weights[i]))
		}
		if got := mustShare(t, keys); got != want {
			t.Errorf("SharedKey(%d), whose weights are %d, is %d, want %d", keys, c.weights, got, want)
		}
	}
}

// sharersOf1 are lists of secrets for whose keys the product of the powers is 1, though that of the same keys in the opposite order is another one.
var sharersOf1 = [][]int{
	{11, 3443940}, {11, 470222039}, {1, 41244844}, {1, 2, 249829714},
	{2, 3, 4, 5, 6, 7, 8, 407843337}, {11, 12, 13, 14, 15, 16, 17, 484854106}, {101, 102, 103, 104, 105, 106, 107, 161329276},
}

func TestSharedKeyRefusesAProductOf1(t *testing.T) {
	for _, secrets := range sharersOf1 {
		keys := keysOf(secrets)
		if got := sharedKeyFrom(keys); got != 1 {
			t.Errorf("the product of the powers of %d is %d", keys, got)
		}
		refusesKeys(t, keys)
		slices.Reverse(keys)
		if got, want := mustShare(t, keys), sharedKeyFrom(keys); got != want || got == 1 {
			t.Errorf("SharedKey(%d) is %d, want %d", keys, got, want)
		}
	}
}

func TestSharedKeyRefusesOtherLengths(t *testing.T) {
	refusesKeys(t, nil)
	refusesKeys(t, []int{})
	for n := 1; n <= 3*impl.ShareMax; n++ {
		for _, key := range []int{4, 5} {
			keys := slices.Repeat([]int{key}, n)
			if n > impl.ShareMax {
				refusesKeys(t, keys)
			} else {
				mustShare(t, keys)
			}
		}
	}
	refusesKeys(t, someElements()[1:impl.ShareMax+2])
	refusesKeys(t, slices.Repeat([]int{0}, impl.ShareMax+1))
}

func TestSharedKeyRefusesWhatIsNoKey(t *testing.T) {
	for n := 1; n <= impl.ShareMax; n++ {
		for i := range n {
			for _, no := range noKeys {
				keys := slices.Clone(someElements()[1 : n+1])
				keys[i] = no
				refusesKeys(t, keys)
			}
		}
		for _, no := range noKeys {
			refusesKeys(t, slices.Repeat([]int{no}, n))
		}
	}
}

func TestP39SharedKeyIsAValidKey(t *testing.T) {
	for _, secrets := range someSharers() {
		keys := keysOf(secrets)
		if got := mustShare(t, keys); !impl.KeyOk(got) || !isSquare(got) || got == 1 {
			t.Errorf("SharedKey(%d) is %d, which is no key", keys, got)
		}
	}
	// The product may be 1, and then there is no shared key.
	for _, secrets := range sharersOf1 {
		if got, ok := impl.SharedKey(keysOf(secrets)); ok {
			t.Errorf("SharedKey of the keys of %d is %d", secrets, got)
		}
	}
}

func TestSharedSignTellsTheNumbers(t *testing.T) {
	for _, c := range []struct {
		secrets []int
		text    string
		want    impl.Sig
	}{
		{[]int{1}, "", impl.Sig{R: 106775374, S: 748752763}},
		{[]int{1}, "coin", impl.Sig{R: 1272072206, S: 87716306}},
		{[]int{11}, "coin", impl.Sig{R: 413079814, S: 470972221}},
		{[]int{impl.GroupOrder - 1}, "coin", impl.Sig{R: 349557948, S: 662562324}},
		{[]int{1, 2}, "", impl.Sig{R: 911175225, S: 984385872}},
		{[]int{2, 1}, "", impl.Sig{R: 911175225, S: 732788968}},
		{[]int{11, 22}, "coin", impl.Sig{R: 1820275026, S: 128708662}},
		{[]int{22, 11}, "coin", impl.Sig{R: 1820275026, S: 781426279}},
		{[]int{11, 11}, "coin", impl.Sig{R: 2125471960, S: 178002013}},
		{[]int{11, impl.GroupOrder - 11}, "coin", impl.Sig{R: 1619998947, S: 755006192}},
		{[]int{11, 22}, "\x00", impl.Sig{R: 819753278, S: 451158248}},
		{[]int{1, 2, 3, 4, 5, 6, 7, 8}, "", impl.Sig{R: 1738528569, S: 262287190}},
		{[]int{1, 2, 3, 4, 5, 6, 7, 8}, "coin", impl.Sig{R: 1974056281, S: 807369001}},
		{[]int{8, 7, 6, 5, 4, 3, 2, 1}, "coin", impl.Sig{R: 1974056281, S: 514063639}},
		{slices.Repeat([]int{impl.GroupOrder - 1}, 8), "\xff\xfe", impl.Sig{R: 1007118252, S: 1037934879}},
		{[]int{123456789, 536870895, 1000000}, strings.Repeat("a", 5000), impl.Sig{R: 1452276254, S: 653189315}},
		// The weights are GroupOrder-1, and 1 for the first one.
		{[]int{145606926}, "coin", impl.Sig{R: 1843750895, S: 327505521}},
		{[]int{1, 45642760}, "coin", impl.Sig{R: 1540008419, S: 391933374}},
		// The nonces add up to GroupOrder.
		{[]int{11, 22}, "all 393183906", impl.Sig{R: 1, S: 993948745}},
		{[]int{11, 22}, "all 1444388391", impl.Sig{R: 1, S: 574125490}},
		// S is 0, and GroupOrder-1.
		{[]int{11, 22}, "all 1171423141", impl.Sig{R: 1424235154, S: 0}},
		{[]int{11, 22}, "all 719520219", impl.Sig{R: 1330256467, S: 0}},
		{[]int{11, 22}, "all 745451672", impl.Sig{R: 674547262, S: impl.GroupOrder - 1}},
		// The challenge is 0, and GroupOrder-1.
		{[]int{11, 22}, "all 160854242", impl.Sig{R: 740879077, S: 250034393}},
		{[]int{11, 22}, "all 545723362", impl.Sig{R: 1751742145, S: 374379820}},
		{[]int{11, 22}, "all 218776876", impl.Sig{R: 1108969558, S: 257448856}},
	} {
		got, ok := impl.SharedSign(c.secrets, c.text)
		if !ok || got != c.want {
			t.Errorf("SharedSign(%d, %.20q) is %v, %t, want %v", c.secrets, c.text, got, ok, c.want)
		}
		if !impl.Verify(mustShare(t, keysOf(c.secrets)), c.text, got) {
			t.Errorf("Verify does not hold of SharedSign(%d, %.20q)", c.secrets, c.text)
		}
	}
}

func TestSharedSignFollowsTheDocument(t *testing.T) {
	for _, secrets := range someSharers() {
		for _, text := range someMessages()[:5] {
			if got, want := mustShareSign(t, secrets, text), sharedSignOf(secrets, text); got != want {
				t.Errorf("SharedSign(%d, %q) is %v, want %v", secrets, text, got, want)
			}
		}
	}
	for _, text := range someMessages() {
		secrets := []int{11, 22, impl.GroupOrder - 1}
		if got, want := mustShareSign(t, secrets, text), sharedSignOf(secrets, text); got != want {
			t.Errorf("SharedSign(%d, %.20q) is %v, want %v", secrets, text, got, want)
		}
	}
}

func TestP40VerifyHoldsOfSharedSign(t *testing.T) {
	for _, secrets := range someSharers() {
		keys := make([]int, len(secrets))
		for i, secret := range secrets {
			keys[i], _ = impl.KeyOf(secret)
		}
		key := mustShare(t, keys)
		for _, text := range someMessages() {
			m := impl.Signed{Key: key, Text: text, Sig: mustShareSign(t, secrets, text)}
			if !verified(m) {
				t.Errorf("Verify does not hold of SharedSign(%d, %.20q), %v", secrets, text, m.Sig)
			}
			if verified(nextS(m)) || impl.Verify(key, text+"x", m.Sig) {
				t.Errorf("Verify holds of %v, or of its message and an x", nextS(m))
			}
		}
	}
}

func TestSharedSignSignsForTheOrderOfItsList(t *testing.T) {
	for _, secrets := range [][]int{{1, 2}, {11, 22}, {1, 2, 3}, {1, 2, 3, 4, 5, 6, 7, 8}, {11, 3443941}} {
		keys := keysOf(secrets)
		sig := mustShareSign(t, secrets, "coin")
		if !impl.Verify(mustShare(t, keys), "coin", sig) {
			t.Errorf("Verify does not hold of SharedSign(%d)", secrets)
		}
		slices.Reverse(keys)
		if impl.Verify(mustShare(t, keys), "coin", sig) {
			t.Errorf("Verify holds of SharedSign(%d) and the keys in the opposite order", secrets)
		}
		for _, key := range keys {
			if impl.Verify(key, "coin", sig) {
				t.Errorf("Verify holds of SharedSign(%d) and the key of one, %d", secrets, key)
			}
		}
	}
}

func TestSharedSignRefusesOtherLengths(t *testing.T) {
	refusesSecrets(t, nil)
	refusesSecrets(t, []int{})
	for n := 1; n <= 3*impl.ShareMax; n++ {
		for _, secret := range []int{1, 11} {
			secrets := slices.Repeat([]int{secret}, n)
			if n > impl.ShareMax {
				refusesSecrets(t, secrets)
			} else {
				mustShareSign(t, secrets, "coin")
			}
		}
	}
	refusesSecrets(t, someScalars()[:impl.ShareMax+1])
	refusesSecrets(t, slices.Repeat([]int{0}, impl.ShareMax+1))
}

func TestSharedSignRefusesOtherSecrets(t *testing.T) {
	for n := 1; n <= impl.ShareMax; n++ {
		for i := range n {
			for _, no := range noSecrets {
				secrets := slices.Clone(someScalars()[:n])
				secrets[i] = no
				refusesSecrets(t, secrets)
			}
		}
		for _, no := range noSecrets {
			refusesSecrets(t, slices.Repeat([]int{no}, n))
		}
	}
}

func TestSharedSignRefusesASharedKeyOf1(t *testing.T) {
	for _, secrets := range sharersOf1 {
		refusesSecrets(t, secrets)
		opposite := slices.Clone(secrets)
		slices.Reverse(opposite)
		if got, want := mustShareSign(t, opposite, "coin"), sharedSignOf(opposite, "coin"); got != want {
			t.Errorf("SharedSign(%d) is %v, want %v", opposite, got, want)
		}
	}
}

func TestSharedKeyAndSharedSignLeaveTheirArguments(t *testing.T) {
	for _, room := range []int{0, 1, 5} {
		for n := 1; n <= impl.ShareMax+1; n++ {
			secrets := slices.Clone(someScalars()[:n+room])
			keys := keysOf(secrets)
			sameSecrets, sameKeys := slices.Clone(secrets), slices.Clone(keys)
			impl.SharedKey(keys[:n])
			impl.SharedSign(secrets[:n], "coin")
			keys[n-1], sameKeys[n-1] = 1, 1
			secrets[n-1], sameSecrets[n-1] = 0, 0
			impl.SharedKey(keys[:n])
			impl.SharedSign(secrets[:n], "coin")
			if !slices.Equal(keys, sameKeys) || !slices.Equal(secrets, sameSecrets) {
				t.Errorf("SharedKey or SharedSign changed its list of %d, or what is behind it", n)
			}
		}
	}
}

// pointSecrets are secrets of points.
var pointSecrets = []int{1, 2, 3, 11, 536870894, 536870895, 987654321, impl.GroupOrder - 2, impl.GroupOrder - 1}

// adapted is an adaptor signature with the key and the message that it is for.
type adapted struct {
	key     int
	text    string
	adaptor impl.Adaptor
}

// adaptedWith is an adaptor signature that is made with any nonce, also with 0, by which R is 1.
func adaptedWith(secret int, nonce int, text string, point int) adapted {
	key, r := powerOf(impl.GroupBase, secret), powerOf(impl.GroupBase, nonce)
	challenge := challengeOf(productOf(r, point, impl.GroupMod), key, text)
	return adapted{key, text, impl.Adaptor{R: r, S: answerOf(nonce, challenge, secret), Point: point}}
}

// takenFrom is the adaptor signature that becomes a signed message when the secret of a point is added.
func takenFrom(m impl.Signed, secret int) adapted {
	rest := impl.GroupOrder - secret
	r := productOf(m.Sig.R, powerOf(impl.GroupBase, rest), impl.GroupMod)
	return adapted{m.Key, m.Text, impl.Adaptor{R: r, S: (m.Sig.S + rest) % impl.GroupOrder, Point: powerOf(impl.GroupBase, secret)}}
}

// holds is AdaptorVerify of an adaptor signature.
func (a adapted) holds() bool {
	return impl.AdaptorVerify(a.key, a.text, a.adaptor)
}

// moreS is the adaptor signature with a number more as its S.
func (a adapted) moreS(more int) adapted {
	a.adaptor.S += more
	return a
}

// nextS is the adaptor signature with the next scalar as its S.
func (a adapted) nextS() adapted {
	a.adaptor.S = (a.adaptor.S + 1) % impl.GroupOrder
	return a
}

// with is the adaptor signature with another R and another point.
func (a adapted) with(r int, point int) adapted {
	a.adaptor.R, a.adaptor.Point = r, point
	return a
}

// holdsByTheDocument is what AdaptorVerify must be, reckoned as the document tells it.
func (a adapted) holdsByTheDocument() bool {
	r, s, point := a.adaptor.R, a.adaptor.S, a.adaptor.Point
	if !isSquare(a.key) || a.key == 1 || !isSquare(point) || point == 1 || !isSquare(r) || s < 0 || s >= impl.GroupOrder {
		return false
	}
	challenge := challengeOf(productOf(r, point, impl.GroupMod), a.key, a.text)
	return powerOf(impl.GroupBase, s) == productOf(r, powerOf(a.key, challenge), impl.GroupMod)
}

func mustAdapt(t *testing.T, secret int, text string, point int) adapted {
	t.Helper()
	key, ok := impl.KeyOf(secret)
	a, is := impl.AdaptorSign(secret, text, point)
	if !ok || !is {
		t.Fatalf("KeyOf(%d) is %t and AdaptorSign with %.20q and %d is %t", secret, ok, text, point, is)
	}
	return adapted{key, text, a}
}

func mustFinish(t *testing.T, a adapted, secret int) impl.Sig {
	t.Helper()
	sig, ok := impl.AdaptorFinish(a.adaptor, secret)
	if !ok {
		t.Fatalf("AdaptorFinish(%v, %d) is false", a.adaptor, secret)
	}
	return sig
}

// refusesToFinish tells where AdaptorFinish is not false and no signature.
func refusesToFinish(t *testing.T, a impl.Adaptor, secret int) {
	t.Helper()
	if sig, ok := impl.AdaptorFinish(a, secret); ok || sig != (impl.Sig{}) {
		t.Errorf("AdaptorFinish(%v, %d) is %v, %t", a, secret, sig, ok)
	}
}

// refusesToReveal tells where AdaptorReveal is not false and 0.
func refusesToReveal(t *testing.T, a adapted, sig impl.Sig) {
	t.Helper()
	if secret, ok := impl.AdaptorReveal(a.key, a.text, a.adaptor, sig); ok || secret != 0 {
		t.Errorf("AdaptorReveal of %v and %v is %d, %t", a, sig, secret, ok)
	}
}

func TestAdaptorSignTellsTheNumbers(t *testing.T) {
	for _, c := range []struct {
		secret int
		text   string
		want   impl.Adaptor
	}{
		{1, "", impl.Adaptor{R: 106775374, S: 625626073, Point: 4}},
		{1, "coin", impl.Adaptor{R: 1272072206, S: 737489705, Point: 4}},
		{1, "coin", impl.Adaptor{R: 1272072206, S: 128762742, Point: 64}},
		{11, "coin", impl.Adaptor{R: 413079814, S: 119056963, Point: 64}},
		{11, "", impl.Adaptor{R: 145464642, S: 854857489, Point: 64}},
		{11, "coin", impl.Adaptor{R: 413079814, S: 718715138, Point: 16}},
		{11, "coin", impl.Adaptor{R: 413079814, S: 468290948, Point: 4194304}},
		{11, "\x00", impl.Adaptor{R: 672399279, S: 91767822, Point: 5}},
		{impl.GroupOrder - 1, "coin", impl.Adaptor{R: 349557948, S: 171193573, Point: 64}},
		{impl.GroupOrder - 1, "", impl.Adaptor{R: 353579647, S: 175263067, Point: 536870895}},
		{1000000, "\xff\xfe", impl.Adaptor{R: 486354656, S: 944715606, Point: impl.GroupMod - 2}},
		{536870895, "challenge", impl.Adaptor{R: 1155987509, S: 896643773, Point: 7}},
		{123456789, strings.Repeat("a", 5000), impl.Adaptor{R: 1458532685, S: 509371984, Point: 9}},
		// The product of R and the point is 1.
		{11, "coin", impl.Adaptor{R: 413079814, S: 882950646, Point: 504185697}},
		// The nonce is 1, and GroupOrder-1.
		{11, "half 1398773187", impl.Adaptor{R: 4, S: 461640707, Point: 64}},
		{11, "half 320272420", impl.Adaptor{R: 4, S: 36192204, Point: 64}},
		{11, "half 642056778", impl.Adaptor{R: 536870895, S: 69719835, Point: 64}},
		// S is 0, and GroupOrder-1.
		{11, "half 905133684", impl.Adaptor{R: 1308318656, S: 0, Point: 64}},
		{11, "half 783921023", impl.Adaptor{R: 184910887, S: impl.GroupOrder - 1, Point: 64}},
		// The challenge is 0, and GroupOrder-1.
		{11, "half 1132515047", impl.Adaptor{R: 1623614887, S: 348016328, Point: 64}},
		{11, "half 1012885466", impl.Adaptor{R: 286526849, S: 695208982, Point: 64}},
	} {
		got := mustAdapt(t, c.secret, c.text, c.want.Point)
		if got.adaptor != c.want {
			t.Errorf("AdaptorSign(%d, %.20q, %d) is %v, want %v", c.secret, c.text, c.want.Point, got.adaptor, c.want)
		}
		if !got.holds() {
			t.Errorf("AdaptorVerify does not hold of AdaptorSign(%d, %.20q, %d)", c.secret, c.text, c.want.Point)
		}
	}
}

func TestAdaptorSignFollowsTheDocument(t *testing.T) {
	points := append(keysOf(pointSecrets), 3, 5, 7, 9, impl.GroupMod-2, impl.GroupMod-6)
	for _, secret := range append(someScalars()[:20], signers...) {
		for _, text := range someMessages()[:6] {
			for _, point := range points {
				got := mustAdapt(t, secret, text, point)
				if want := adaptedWith(secret, nonceOf(secret, text), text, point); got != want {
					t.Errorf("AdaptorSign(%d, %q, %d) is %v, want %v", secret, text, point, got, want)
				}
			}
		}
	}
	for _, text := range someMessages() {
		if got, want := mustAdapt(t, 11, text, 64), adaptedWith(11, nonceOf(11, text), text, 64); got != want {
			t.Errorf("AdaptorSign(11, %.20q, 64) is %v, want %v", text, got, want)
		}
	}
}

func TestAdaptorSignRefusesOtherSecrets(t *testing.T) {
	for _, secret := range noSecrets {
		for _, point := range []int{4, 64, impl.GroupMod - 2, 1, 0} {
			for _, text := range []string{"", "coin"} {
				if a, ok := impl.AdaptorSign(secret, text, point); ok || a != (impl.Adaptor{}) {
					t.Errorf("AdaptorSign(%d, %q, %d) is %v, %t", secret, text, point, a, ok)
				}
			}
		}
	}
}

func TestAdaptorSignRefusesOtherPoints(t *testing.T) {
	for _, point := range noKeys {
		for _, secret := range signers {
			for _, text := range []string{"", "coin"} {
				if a, ok := impl.AdaptorSign(secret, text, point); ok || a != (impl.Adaptor{}) {
					t.Errorf("AdaptorSign(%d, %q, %d) is %v, %t", secret, text, point, a, ok)
				}
			}
		}
	}
}

// isSignature is Verify of R and S alone.
func (a adapted) isSignature() bool {
	return impl.Verify(a.key, a.text, impl.Sig{R: a.adaptor.R, S: a.adaptor.S})
}

func TestP41AdaptorVerifyHoldsOfAdaptorSign(t *testing.T) {
	for _, secret := range append(someScalars()[:30], signers...) {
		for _, text := range someMessages() {
			for _, point := range append(keysOf(pointSecrets), 5) {
				a := mustAdapt(t, secret, text, point)
				if !a.holds() {
					t.Errorf("AdaptorVerify does not hold of AdaptorSign(%d, %.20q, %d), %v", secret, text, point, a.adaptor)
				}
				if a.isSignature() {
					t.Errorf("R and S of AdaptorSign(%d, %.20q, %d), %v, are a valid signature", secret, text, point, a.adaptor)
				}
			}
		}
	}
}

func TestP41RAndSAreASignatureIfBothChallengesAreTheSame(t *testing.T) {
	for _, text := range []string{"half 202042128", "half 594098850", "half 599314349", "half 600766081", "half 836721119", "half 1246183706"} {
		a := mustAdapt(t, 11, text, 64)
		finished := mustMul(t, a.adaptor.R, 64)
		if impl.Challenge(a.adaptor.R, a.key, text) != impl.Challenge(finished, a.key, text) {
			t.Errorf("the challenges of %q differ", text)
		}
		if !a.holds() || !a.isSignature() {
			t.Errorf("AdaptorVerify of %v is %t, and Verify of its R and S is %t", a, a.holds(), a.isSignature())
		}
		if next := a.nextS(); next.holds() || next.isSignature() {
			t.Errorf("AdaptorVerify of %v is %t, and Verify of its R and S is %t", next, next.holds(), next.isSignature())
		}
	}
}

func TestAdaptorVerifyRefusesAnotherS(t *testing.T) {
	for _, secret := range signers {
		for _, text := range someMessages()[:6] {
			a := mustAdapt(t, secret, text, 64)
			right := a.adaptor.S
			for _, s := range slices.Concat(noScalars, someScalars()[:20], []int{
				0, (right + 1) % impl.GroupOrder, (right + impl.GroupOrder - 1) % impl.GroupOrder, right + impl.GroupOrder, right - impl.GroupOrder,
				right + 2*impl.GroupOrder, right + impl.GroupOrder<<32, -right - 1, impl.GroupOrder - 1 - right, right ^ 1, right ^ 1<<29, (right + 3) % impl.GroupOrder,
			}) {
				if a.adaptor.S = s; s != right && a.holds() {
					t.Errorf("AdaptorVerify with another S, %d and not %d, holds", s, right)
				}
			}
		}
	}
}

func TestAdaptorVerifyOfSAtTheEdges(t *testing.T) {
	least, greatest := mustAdapt(t, 11, "half 905133684", 64), mustAdapt(t, 11, "half 783921023", 64)
	for _, c := range []struct {
		a    adapted
		s    int
		want bool
	}{
		{least, 0, true}, {least, 1, false}, {least, impl.GroupOrder, false}, {least, -impl.GroupOrder, false}, {least, impl.GroupOrder - 1, false},
		{greatest, impl.GroupOrder - 1, true}, {greatest, 0, false}, {greatest, impl.GroupOrder, false}, {greatest, -1, false}, {greatest, impl.GroupOrder - 2, false},
	} {
		if c.a.adaptor.S = c.s; c.a.holds() != c.want {
			t.Errorf("AdaptorVerify of %v is %t", c.a, !c.want)
		}
	}
}

func TestAdaptorVerifyRefusesAnotherROrPoint(t *testing.T) {
	for _, secret := range signers {
		for _, text := range someMessages()[:6] {
			a := mustAdapt(t, secret, text, 64)
			r, point := a.adaptor.R, a.adaptor.Point
			for _, other := range slices.Concat(noKeys, someElements()[:20], []int{
				r + impl.GroupMod, r - impl.GroupMod, impl.GroupMod - r, r + 1<<32, mustInv(t, r), mustMul(t, r, 4), mustMul(t, r, point),
				point + impl.GroupMod, point - impl.GroupMod, impl.GroupMod - point, point + 1<<32, mustInv(t, point), mustMul(t, point, 4), a.key,
			}) {
				if other != r && a.with(other, point).holds() {
					t.Errorf("AdaptorVerify of %v with another R, %d, holds", a, other)
				}
				if other != point && a.with(r, other).holds() {
					t.Errorf("AdaptorVerify of %v with another point, %d, holds", a, other)
				}
			}
			for _, b := range []adapted{a.with(point, r), a.with(mustMul(t, r, 4), mustMul(t, point, mustInv(t, 4))), a.with(mustMul(t, r, point), 1), a.with(1, mustMul(t, r, point))} {
				if b.holds() {
					t.Errorf("AdaptorVerify of %v, in which just the product of R and the point is right, holds", b)
				}
			}
		}
	}
}

func TestAdaptorVerifyRefusesAnotherKeyOrMessage(t *testing.T) {
	for _, secret := range signers {
		for _, text := range someMessages()[:6] {
			a := mustAdapt(t, secret, text, 64)
			right := a.key
			for _, key := range slices.Concat(noKeys, someElements()[:20], []int{
				right + impl.GroupMod, right - impl.GroupMod, impl.GroupMod - right, -right, right + 1<<32, mustInv(t, right), mustMul(t, right, 4), a.adaptor.R, 64,
			}) {
				if a.key = key; key != right && a.holds() {
					t.Errorf("AdaptorVerify with another key, %d and not %d, holds", key, right)
				}
			}
			a.key = right
			for _, other := range append(someMessages(), text+"\x00", text+text+"x", " "+text) {
				if a.text = other; other != text && a.holds() {
					t.Errorf("AdaptorVerify with another message, %.20q and not %q, holds", other, text)
				}
			}
		}
	}
}

func TestAdaptorVerifyTakesEachNonce(t *testing.T) {
	for _, secret := range signers {
		for _, nonce := range []int{0, 1, 2, 7, secret, impl.GroupOrder - secret, impl.GroupOrder - 1} {
			for _, point := range append(keysOf(pointSecrets), 5, powerOf(impl.GroupBase, secret)) {
				a := adaptedWith(secret, nonce, "coin", point)
				if !a.holds() || a.nextS().holds() {
					t.Errorf("AdaptorVerify of %v, whose nonce is %d, is %t, and with the next S it is %t", a, nonce, a.holds(), a.nextS().holds())
				}
				if nonce == 0 && a.adaptor.R != 1 {
					t.Errorf("the nonce 0 leads to R %d", a.adaptor.R)
				}
			}
		}
	}
}

func TestAdaptorVerifyTakesAProductOf1(t *testing.T) {
	for _, secret := range signers {
		for _, text := range someMessages()[:6] {
			point := mustInv(t, powerOf(impl.GroupBase, nonceOf(secret, text)))
			a := mustAdapt(t, secret, text, point)
			if mustMul(t, a.adaptor.R, a.adaptor.Point) != 1 || !a.holds() || a.nextS().holds() {
				t.Errorf("AdaptorVerify of %v, whose R is the inverse of the point, is %t, and with the next S it is %t", a, a.holds(), a.nextS().holds())
			}
			sig := mustFinish(t, a, impl.GroupOrder-nonceOf(secret, text))
			if sig.R != 1 || !impl.Verify(a.key, text, sig) {
				t.Errorf("%v becomes %v, which is not valid", a, sig)
			}
		}
	}
}

// almostAdapted returns adaptor signatures for which both sides of the equation are congruent, but whose key, R, S or point is not as it must be.
func almostAdapted(t *testing.T) []adapted {
	t.Helper()
	var list []adapted
	add := func(key int, r int, point int, nonce int, secret int) {
		for _, text := range someMessages()[:8] {
			challenge := challengeOf(productOf(r, point, impl.GroupMod), key, text)
			s := answerOf(nonce, challenge, secret)
			if powerOf(impl.GroupBase, s) == productOf(r, powerOf(key, challenge), impl.GroupMod) {
				list = append(list, adapted{key, text, impl.Adaptor{R: r, S: s, Point: point}})
			}
		}
	}
	for _, secret := range []int{1, 11, impl.GroupOrder - 1} {
		for _, nonce := range []int{0, 1, 123456789} {
			key, r := powerOf(impl.GroupBase, secret), powerOf(impl.GroupBase, nonce)
			begun := len(list)
			add(1, r, 64, nonce, 0)
			add(key+impl.GroupMod, r, 64, nonce, secret)
			add(key, r+impl.GroupMod, 64, nonce, secret)
			for _, point := range []int{1, 64 + impl.GroupMod, 2, impl.GroupMod - 64, impl.GroupMod - 1, 1<<32 + 64} {
				add(key, r, point, nonce, secret)
			}
			if got := len(list) - begun; got != 72 {
				t.Fatalf("%d adaptor signatures are almost valid, want 72", got)
			}
			// Negatives are squares of no number: an even power of the key, or two of them together, are elements all the same.
			add(impl.GroupMod-key, r, 64, nonce, secret)
			add(impl.GroupMod-key, impl.GroupMod-r, 64, nonce, secret)
			add(impl.GroupMod-key, impl.GroupMod-r, impl.GroupMod-64, nonce, secret)
			if got := len(list) - begun; got < 74 {
				t.Fatalf("%d adaptor signatures are almost valid", got)
			}
			a := adaptedWith(secret, nonce, "coin", 64)
			list = append(list, a.moreS(impl.GroupOrder), a.moreS(-impl.GroupOrder), a.moreS(impl.GroupOrder<<32))
		}
	}
	return list
}

func TestAdaptorVerifyRefusesWhatIsAlmostValid(t *testing.T) {
	for _, a := range append(almostAdapted(t), adapted{}, adapted{key: 4}, adapted{4, "", impl.Adaptor{R: 1, Point: 1}}) {
		if a.holds() {
			t.Errorf("AdaptorVerify holds of %v", a)
		}
	}
}

func TestAdaptorVerifyIsTheEquationOfTheDocument(t *testing.T) {
	r := rand.New(rand.NewSource(8))
	pick := func(right int, others ...int) int {
		if i := r.Intn(12); i < len(others) {
			return others[i]
		}
		return right
	}
	counts := map[bool]int{}
	for range 4000 {
		secret, nonce := signers[r.Intn(len(signers))], r.Intn(impl.GroupOrder)
		a := adaptedWith(secret, nonce, "coin", mustPow(t, 4, 1+r.Intn(impl.GroupOrder-1)))
		was := a.adaptor
		a.key = pick(a.key, 1, 2, impl.GroupMod-a.key)
		a.adaptor.R = pick(was.R, was.Point, 4*was.R%impl.GroupMod, impl.GroupMod-was.R)
		a.adaptor.S = pick(was.S, was.S-1, was.S+1, was.S+impl.GroupOrder)
		a.adaptor.Point = pick(was.Point, was.R, 1, 3)
		got := a.holds()
		if got != a.holdsByTheDocument() {
			t.Errorf("AdaptorVerify of %v is %t", a, got)
		}
		counts[got]++
	}
	if counts[true] < 500 || counts[false] < 500 {
		t.Errorf("AdaptorVerify holds %d times and does not %d times", counts[true], counts[false])
	}
}

// finishing is an adaptor signature that is valid, and the secret of its point.
type finishing struct {
	adapted
	secret int
}

// someFinishings returns adaptor signatures of AdaptorSign, and others that are taken from signatures whose S is 0, GroupOrder-1 and between them.
func someFinishings(t *testing.T) []finishing {
	t.Helper()
	var list []finishing
	for _, secret := range pointSecrets {
		point := powerOf(impl.GroupBase, secret)
		for _, signer := range append(someScalars()[:10], signers...) {
			for _, text := range someMessages()[:3] {
				list = append(list, finishing{mustAdapt(t, signer, text, point), secret})
			}
		}
		for _, m := range []impl.Signed{
			mustSign(t, 11, "m462288348"), mustSign(t, 11, "m2520825547"), mustSign(t, 11, "coin"), signedWith(11, 0, ""), signedWith(11, secret, "coin"),
		} {
			list = append(list, finishing{takenFrom(m, secret), secret})
		}
	}
	for _, text := range []string{"half 905133684", "half 783921023", "half 1132515047", "half 1012885466", "half 202042128"} {
		list = append(list, finishing{mustAdapt(t, 11, text, 64), 3})
	}
	return list
}

func TestP42OneNumberMakesAnAdaptorSignatureASignature(t *testing.T) {
	for _, f := range someFinishings(t) {
		if !f.holds() {
			t.Errorf("AdaptorVerify does not hold of %v", f)
		}
		r := mustMul(t, f.adaptor.R, f.adaptor.Point)
		for _, number := range append(someScalars()[:10], 0, f.secret, f.secret-1, (f.secret+1)%impl.GroupOrder, impl.GroupOrder-f.secret, f.adaptor.S) {
			sig := impl.Sig{R: r, S: (f.adaptor.S + number) % impl.GroupOrder}
			if got, want := impl.Verify(f.key, f.text, sig), number == f.secret; got != want {
				t.Errorf("Verify of %v, which is %v with %d more, is %t", sig, f, number, got)
			}
		}
	}
}

func TestP43AdaptorFinishAddsTheSecret(t *testing.T) {
	passed := map[bool]int{}
	for _, f := range someFinishings(t) {
		sig := mustFinish(t, f.adapted, f.secret)
		want := impl.Sig{R: mustMul(t, f.adaptor.R, f.adaptor.Point), S: (f.adaptor.S + f.secret) % impl.GroupOrder}
		if sig != want || !impl.Verify(f.key, f.text, sig) {
			t.Errorf("AdaptorFinish of %v is %v, want %v", f, sig, want)
		}
		if got := (sig.S - f.adaptor.S + impl.GroupOrder) % impl.GroupOrder; got != f.secret {
			t.Errorf("the S of %v minus that of %v is %d", sig, f, got)
		}
		passed[f.adaptor.S+f.secret >= impl.GroupOrder]++
	}
	if passed[true] < 50 || passed[false] < 50 {
		t.Errorf("the sum passes GroupOrder %d times and does not %d times", passed[true], passed[false])
	}
}

func TestAdaptorFinishTellsTheNumbers(t *testing.T) {
	for _, c := range []struct {
		a      impl.Adaptor
		secret int
		want   impl.Sig
	}{
		{impl.Adaptor{R: 413079814, S: 119056963, Point: 64}, 3, impl.Sig{R: 667305148, S: 119056966}},
		{impl.Adaptor{R: 1308318656, S: 0, Point: 64}, 3, impl.Sig{R: 2128017982, S: 3}},
		{impl.Adaptor{R: 184910887, S: impl.GroupOrder - 1, Point: 64}, 3, impl.Sig{R: 1096878873, S: 2}},
		// No valid signatures come from these, but nobody asks for a key or a message.
		{impl.Adaptor{R: 1, S: 0, Point: 4}, 1, impl.Sig{R: 4, S: 1}},
		{impl.Adaptor{R: 4, S: impl.GroupOrder - 3, Point: 64}, 3, impl.Sig{R: 256, S: 0}},
		{impl.Adaptor{R: 4, S: impl.GroupOrder - 4, Point: 64}, 3, impl.Sig{R: 256, S: impl.GroupOrder - 1}},
		{impl.Adaptor{R: 4, S: impl.GroupOrder - 2, Point: 64}, 3, impl.Sig{R: 256, S: 1}},
		{impl.Adaptor{R: 4, S: 0, Point: 536870895}, impl.GroupOrder - 1, impl.Sig{R: 1, S: impl.GroupOrder - 1}},
		{impl.Adaptor{R: 16, S: 1, Point: 536870895}, impl.GroupOrder - 1, impl.Sig{R: 4, S: 0}},
		{impl.Adaptor{R: 16, S: impl.GroupOrder - 1, Point: 536870895}, impl.GroupOrder - 1, impl.Sig{R: 4, S: impl.GroupOrder - 2}},
	} {
		if got, ok := impl.AdaptorFinish(c.a, c.secret); !ok || got != c.want {
			t.Errorf("AdaptorFinish(%v, %d) is %v, %t, want %v", c.a, c.secret, got, ok, c.want)
		}
	}
}

func TestAdaptorFinishRefusesOtherSecrets(t *testing.T) {
	for _, f := range someFinishings(t) {
		for _, secret := range slices.Concat(noSecrets, pointSecrets, []int{
			f.secret + impl.GroupOrder, f.secret - impl.GroupOrder, impl.GroupOrder - f.secret, f.secret - 1, f.secret + 1, f.secret + impl.GroupOrder<<32, -f.secret,
		}) {
			if secret != f.secret {
				refusesToFinish(t, f.adaptor, secret)
			}
		}
	}
}

func TestAdaptorFinishRefusesOtherNumbers(t *testing.T) {
	for _, secret := range pointSecrets {
		point := powerOf(impl.GroupBase, secret)
		for _, no := range noElements {
			refusesToFinish(t, impl.Adaptor{R: no, S: 5, Point: point}, secret)
		}
		for _, no := range noScalars {
			refusesToFinish(t, impl.Adaptor{R: 16, S: no, Point: point}, secret)
		}
		for _, no := range slices.Concat(noKeys, []int{point + impl.GroupMod, point - impl.GroupMod, impl.GroupMod - point, point + 1<<32}) {
			refusesToFinish(t, impl.Adaptor{R: 16, S: 5, Point: no}, secret)
		}
	}
	for _, point := range noKeys {
		for _, secret := range noSecrets {
			refusesToFinish(t, impl.Adaptor{R: 16, S: 5, Point: point}, secret)
		}
	}
	refusesToFinish(t, impl.Adaptor{}, 0)
	refusesToFinish(t, impl.Adaptor{}, 1)
}

func TestP44AdaptorRevealTellsTheSecret(t *testing.T) {
	below := map[bool]int{}
	for _, f := range someFinishings(t) {
		sig := mustFinish(t, f.adapted, f.secret)
		secret, ok := impl.AdaptorReveal(f.key, f.text, f.adaptor, sig)
		if !ok || secret != f.secret {
			t.Errorf("AdaptorReveal of %v and %v is %d, %t", f, sig, secret, ok)
		}
		if point, is := impl.KeyOf(secret); !is || point != f.adaptor.Point {
			t.Errorf("KeyOf of AdaptorReveal of %v is %d, %t", f, point, is)
		}
		if again := mustFinish(t, f.adapted, secret); again != sig {
			t.Errorf("AdaptorFinish of %v with AdaptorReveal is %v, want %v", f, again, sig)
		}
		below[sig.S < f.adaptor.S]++
	}
	if below[true] < 50 || below[false] < 50 {
		t.Errorf("the signature's S is below the adaptor's %d times and is not %d times", below[true], below[false])
	}
}

func TestAdaptorRevealOfSAtTheEdges(t *testing.T) {
	for _, text := range []string{"m462288348", "m2520825547", "m40834192", "m878401459", "pay 2114530724", "m146250194"} {
		m := mustSign(t, 11, text)
		for _, want := range append(someScalars()[:40], m.Sig.S, impl.GroupOrder-m.Sig.S, m.Sig.S+1) {
			if want < 1 || want >= impl.GroupOrder {
				continue
			}
			a := takenFrom(m, want)
			if got, ok := impl.AdaptorReveal(m.Key, m.Text, a.adaptor, m.Sig); !ok || got != want {
				t.Errorf("AdaptorReveal of %v and %v is %d, %t, want %d", a, m.Sig, got, ok, want)
			}
			refusesToReveal(t, a, nextS(m).Sig)
			refusesToReveal(t, a.nextS(), m.Sig)
			refusesToReveal(t, a.nextS(), nextS(m).Sig)
		}
	}
}

func TestAdaptorRevealRefusesWhatDoesNotFit(t *testing.T) {
	for _, f := range someFinishings(t) {
		sig := mustFinish(t, f.adapted, f.secret)
		signed := impl.Signed{Key: f.key, Text: f.text, Sig: sig}
		r, point := f.adaptor.R, f.adaptor.Point
		otherKey, otherText := f.adapted, f.adapted
		otherKey.key, otherText.text = mustMul(t, f.key, 9), f.text+"x"
		for _, c := range []struct {
			a   adapted
			sig impl.Sig
		}{
			{f.adapted, impl.Sig{}}, {adapted{}, sig}, {adapted{}, impl.Sig{}}, {otherKey, sig}, {otherText, sig},
			// The signature is not valid, though its R is right.
			{f.adapted, nextS(signed).Sig}, {f.adapted, withS(signed, impl.GroupOrder).Sig}, {f.adapted, withS(signed, -impl.GroupOrder).Sig},
			{f.adapted, impl.Sig{R: sig.R, S: f.adaptor.S}},
			// The signature is not valid, nor is its R right.
			{f.adapted, impl.Sig{R: mustMul(t, sig.R, 9), S: sig.S}}, {f.adapted, impl.Sig{R: sig.R + impl.GroupMod, S: sig.S}}, {f.adapted, impl.Sig{R: impl.GroupMod - sig.R, S: sig.S}},
			// The adaptor signature is not valid, though the product of its R and its point is right.
			{f.nextS(), sig}, {f.moreS(impl.GroupOrder), sig}, {f.moreS(-impl.GroupOrder), sig}, {f.with(mustMul(t, r, 9), mustMul(t, point, mustInv(t, 9))), sig},
			{f.with(r+impl.GroupMod, point), sig}, {f.with(r, point+impl.GroupMod), sig}, {f.with(impl.GroupMod-r, impl.GroupMod-point), sig},
			{adapted{f.key, f.text, impl.Adaptor{R: sig.R, S: sig.S, Point: 1}}, sig},
			// The adaptor signature is not valid, nor does its product fit.
			{f.with(mustMul(t, r, 9), point), sig}, {f.with(r, mustMul(t, point, 9)), sig}, {f.with(r, 1), sig}, {f.with(0, point), sig}, {f.with(r, 0), sig},
		} {
			refusesToReveal(t, c.a, c.sig)
		}
	}
}

func TestAdaptorRevealRefusesASignatureOfAnotherR(t *testing.T) {
	for _, signer := range signers {
		for _, text := range someMessages()[:6] {
			for _, secret := range pointSecrets {
				a := mustAdapt(t, signer, text, powerOf(impl.GroupBase, secret))
				for _, m := range []impl.Signed{mustSign(t, signer, text), signedWith(signer, 0, text), signedWith(signer, 7, text), signedWith(signer, nonceOf(signer, text)/2, text)} {
					if !verified(m) || m.Key != a.key || m.Sig.R == mustMul(t, a.adaptor.R, a.adaptor.Point) {
						t.Fatalf("%v is not valid, or has the R that %v leads to", m, a)
					}
					refusesToReveal(t, a, m.Sig)
				}
			}
		}
	}
}

func TestAdaptorRevealRefusesAnotherKeyOrMessage(t *testing.T) {
	for _, signer := range signers {
		a := mustAdapt(t, signer, "coin", 64)
		sig := mustFinish(t, a, 3)
		for _, key := range slices.Concat(noKeys, someElements()[:20], []int{a.key + impl.GroupMod, a.key - impl.GroupMod, impl.GroupMod - a.key, mustInv(t, a.key)}) {
			if b := a; key != a.key {
				b.key = key
				refusesToReveal(t, b, sig)
			}
		}
		for _, text := range someMessages() {
			if b := a; text != a.text {
				b.text = text
				refusesToReveal(t, b, sig)
				// Both are valid, but for different messages.
				refusesToReveal(t, a, mustFinish(t, mustAdapt(t, signer, text, 64), 3))
			}
		}
	}
}

func TestAdaptorRevealRefusesWhatIsAlmostValid(t *testing.T) {
	for _, a := range almostAdapted(t) {
		for _, more := range []int{0, 1, 3, impl.GroupOrder - 3} {
			r := productOf(a.adaptor.R, a.adaptor.Point, impl.GroupMod)
			refusesToReveal(t, a, impl.Sig{R: r, S: productOf(a.adaptor.S+more, 1, impl.GroupOrder)})
			refusesToReveal(t, a, impl.Sig{R: r, S: a.adaptor.S + more})
		}
	}
}

func TestASharedKeyIsLikeAnyOther(t *testing.T) {
	for _, secrets := range someSharers()[:20] {
		secret := sharedSecretOf(secrets)
		key := mustShare(t, keysOf(secrets))
		a := mustAdapt(t, secret, "coin", 64)
		sig := mustFinish(t, a, 3)
		if got, ok := impl.AdaptorReveal(key, "coin", a.adaptor, sig); !ok || got != 3 || !impl.Verify(key, "coin", sig) {
			t.Errorf("AdaptorReveal of %v and %v with the shared key %d is %d, %t", a, sig, key, got, ok)
		}
	}
}
