package tests

import (
	"math"
	"math/big"
	"math/rand"
	"slices"
	"testing"

	"loop.example/workchain/impl"
)

// noElements are numbers that are no elements of the group: some are out of range, though GroupMod divides their differences to elements, and the others are squares of no number.
var noElements = []int{
	0, -1, -4, -16, math.MinInt, math.MinInt + 1, -impl.GroupMod, 1 - impl.GroupMod, 4 - impl.GroupMod,
	impl.GroupMod, impl.GroupMod + 1, impl.GroupMod + 4, 2*impl.GroupMod + 4, 1<<32 + 4, 1<<62 + 4, math.MaxInt - 1, math.MaxInt,
	2, 6, 8, 10, 13, 14, impl.GroupMod - 1, impl.GroupMod - 3, impl.GroupMod - 4, impl.GroupMod - 5, impl.GroupMod - 16,
}

// noSecrets are numbers below and above those from 1 to GroupOrder-1.
var noSecrets = []int{0, -1, -2, -impl.GroupOrder, 1 - impl.GroupOrder, math.MinInt, impl.GroupOrder, impl.GroupOrder + 1, 2*impl.GroupOrder + 1, impl.GroupMod - 1, 1 << 40, math.MaxInt}

// edgeExponents are exponents at the edges of those that are scalars, and beside powers of 2.
var edgeExponents = []int{
	0, 1, 2, 3, 4, 15, 16, 31, 1<<30 - 1, 1 << 30, impl.GroupOrder - 2, impl.GroupOrder - 1, impl.GroupOrder, impl.GroupOrder + 1, 1<<31 - 1, 1 << 31,
	2*impl.GroupOrder - 1, 2 * impl.GroupOrder, 2*impl.GroupOrder + 1, 1 << 32, 1<<62 - 1, 1 << 62, math.MaxInt - 1,
}

// someElements returns elements of the group: small ones, great ones, and the squares of others modulo GroupMod.
func someElements() []int {
	list := []int{1, 3, impl.GroupBase, 5, 7, 9, 16, impl.GroupMod - 2, impl.GroupMod - 6, impl.GroupMod - 8, 536870895, 1<<30 - 35}
	r := rand.New(rand.NewSource(4))
	for range 150 {
		root := 1 + r.Intn(impl.GroupMod-1)
		list = append(list, root*root%impl.GroupMod)
	}
	return list
}

// someScalars returns numbers from 1 to GroupOrder-1.
func someScalars() []int {
	list := []int{1, 2, 3, 4, 7, 11, 22, 33, 1000, 1 << 29, 536870894, 536870895, impl.GroupOrder - 2, impl.GroupOrder - 1}
	r := rand.New(rand.NewSource(5))
	for range 300 {
		list = append(list, 1+r.Intn(impl.GroupOrder-1))
	}
	return list
}

// isSquare reports whether a is in 1..GroupMod-1 and the square of a number modulo GroupMod, by the law of quadratic reciprocity.
func isSquare(a int) bool {
	return a >= 1 && a < impl.GroupMod && big.Jacobi(big.NewInt(int64(a)), big.NewInt(impl.GroupMod)) == 1
}

// productOf is the product of two numbers modulo another one, reckoned with whole numbers of any size.
func productOf(a int, b int, mod int) int {
	product := new(big.Int).Mul(big.NewInt(int64(a)), big.NewInt(int64(b)))
	return int(product.Mod(product, big.NewInt(int64(mod))).Int64())
}

// powerOf is a power modulo GroupMod, reckoned with whole numbers of any size.
func powerOf(a int, e int) int {
	return int(new(big.Int).Exp(big.NewInt(int64(a)), big.NewInt(int64(e)), big.NewInt(impl.GroupMod)).Int64())
}

func mustMul(t *testing.T, a int, b int) int {
	t.Helper()
	product, ok := impl.GroupMul(a, b)
	if !ok {
		t.Fatalf("GroupMul(%d, %d) is false", a, b)
	}
	return product
}

func mustPow(t *testing.T, a int, e int) int {
	t.Helper()
	power, ok := impl.GroupPow(a, e)
	if !ok {
		t.Fatalf("GroupPow(%d, %d) is false", a, e)
	}
	return power
}

func mustInv(t *testing.T, a int) int {
	t.Helper()
	inverse, ok := impl.GroupInv(a)
	if !ok {
		t.Fatalf("GroupInv(%d) is false", a)
	}
	return inverse
}

func TestGroupNumbersFitTogether(t *testing.T) {
	if !big.NewInt(impl.GroupMod).ProbablyPrime(20) || !big.NewInt(impl.GroupOrder).ProbablyPrime(20) {
		t.Errorf("GroupMod or GroupOrder is no prime")
	}
	if got, want := []int{impl.GroupMod, impl.GroupOrder, impl.GroupBase}, []int{2147483579, 1073741789, 4}; !slices.Equal(got, want) {
		t.Errorf("GroupMod, GroupOrder and GroupBase are %d, want %d", got, want)
	}
	if twice := 2*impl.GroupOrder + 1; twice != impl.GroupMod {
		t.Errorf("2 times GroupOrder plus 1 is %d, want %d", twice, impl.GroupMod)
	}
}

func TestGroupOkTellsTheElements(t *testing.T) {
	for _, c := range []struct {
		a    int
		want bool
	}{
		{0, false}, {1, true}, {2, false}, {3, true}, {impl.GroupBase, true}, {5, true}, {6, false}, {7, true}, {8, false}, {9, true}, {10, false}, {11, true}, {12, true}, {13, false}, {14, false},
		{impl.GroupMod - 10, true}, {impl.GroupMod - 8, true}, {impl.GroupMod - 6, true}, {impl.GroupMod - 4, false}, {impl.GroupMod - 3, false}, {impl.GroupMod - 2, true}, {impl.GroupMod - 1, false},
		{impl.GroupMod, false}, {impl.GroupMod + 1, false}, {impl.GroupMod + 4, false}, {impl.GroupOrder, true}, {impl.GroupOrder + 1, false},
		{-1, false}, {-2, false}, {-4, false}, {1 - impl.GroupMod, false}, {-impl.GroupMod, false}, {math.MinInt, false}, {math.MaxInt, false},
	} {
		if got := impl.GroupOk(c.a); got != c.want {
			t.Errorf("GroupOk(%d) is %t", c.a, got)
		}
	}
}

func TestGroupOkHoldsOfTheSquares(t *testing.T) {
	r := rand.New(rand.NewSource(6))
	list := slices.Concat(noElements, someElements())
	for n := range 5000 {
		list = append(list, n, impl.GroupMod-n, impl.GroupOrder-n, r.Intn(impl.GroupMod))
	}
	held, not := 0, 0
	for _, a := range list {
		got := impl.GroupOk(a)
		if got != isSquare(a) {
			t.Errorf("GroupOk(%d) is %t", a, got)
		}
		if got {
			held++
		} else {
			not++
		}
	}
	if held < 8000 || not < 8000 {
		t.Errorf("GroupOk holds of %d numbers and does not of %d", held, not)
	}
}

func TestGroupOkOfANumberOrItsNegative(t *testing.T) {
	for n := 1; n <= 2000; n++ {
		square := n * n
		// -1 is the square of no number modulo a prime that is 3 more than a multiple of 4, so neither is a negative square.
		if !impl.GroupOk(square) || impl.GroupOk(impl.GroupMod-square) {
			t.Errorf("GroupOk of the square of %d is %t, and of the negative one %t", n, impl.GroupOk(square), impl.GroupOk(impl.GroupMod-square))
		}
	}
}

func TestP25GroupOkJustIfGroupInvIsTold(t *testing.T) {
	list := slices.Concat(noElements, someElements())
	for n := range 2000 {
		list = append(list, n, impl.GroupMod-n, -n, impl.GroupMod+n)
	}
	for _, a := range list {
		inverse, ok := impl.GroupInv(a)
		if ok != impl.GroupOk(a) || ok != isSquare(a) {
			t.Errorf("GroupOk(%d) is %t, but GroupInv is %d, %t", a, impl.GroupOk(a), inverse, ok)
		}
		if !ok && inverse != 0 {
			t.Errorf("GroupInv(%d) is %d, but false", a, inverse)
		}
	}
}

func TestGroupMulTellsTheNumbers(t *testing.T) {
	for _, c := range []struct{ a, b, want int }{
		{1, 1, 1}, {4, 16, 64}, {4, 1, 4}, {4, 536870895, 1}, {impl.GroupMod - 2, impl.GroupMod - 2, 4},
		{impl.GroupMod - 2, 4, impl.GroupMod - 8}, {1500625, 1500625, 1312599833}, {impl.GroupMod - 2, impl.GroupOrder, 1},
	} {
		if got, ok := impl.GroupMul(c.a, c.b); !ok || got != c.want {
			t.Errorf("GroupMul(%d, %d) is %d, %t, want %d", c.a, c.b, got, ok, c.want)
		}
	}
}

func TestP26GroupMulIsAnElementInEitherOrder(t *testing.T) {
	list := someElements()
	for _, a := range list {
		if mustMul(t, a, 1) != a || mustMul(t, 1, a) != a {
			t.Errorf("GroupMul of %d and 1 is %d, and %d in the other order", a, mustMul(t, a, 1), mustMul(t, 1, a))
		}
		for _, b := range list {
			product := mustMul(t, a, b)
			if product != productOf(a, b, impl.GroupMod) || product != mustMul(t, b, a) {
				t.Errorf("GroupMul(%d, %d) is %d, and %d in the other order", a, b, product, mustMul(t, b, a))
			}
			if !impl.GroupOk(product) || !isSquare(product) {
				t.Errorf("GroupMul(%d, %d) is %d, which is no element", a, b, product)
			}
		}
	}
}

func TestGroupMulRefusesWhatIsNoElement(t *testing.T) {
	for _, no := range noElements {
		// The product of two numbers that are squares of no number is a square, but these are no elements either.
		for _, other := range append([]int{1, impl.GroupBase, impl.GroupMod - 2, no}, noElements...) {
			if product, ok := impl.GroupMul(no, other); ok || product != 0 {
				t.Errorf("GroupMul(%d, %d) is %d, %t", no, other, product, ok)
			}
			if product, ok := impl.GroupMul(other, no); ok || product != 0 {
				t.Errorf("GroupMul(%d, %d) is %d, %t", other, no, product, ok)
			}
		}
	}
}

func TestGroupPowTellsTheNumbers(t *testing.T) {
	for _, c := range []struct{ a, e, want int }{
		{1, 0, 1}, {1, math.MaxInt, 1}, {4, 0, 1}, {4, 1, 4}, {4, 2, 16}, {4, 15, 1073741824}, {4, 16, 138}, {4, 1000, 138672005},
		{4, impl.GroupOrder - 2, 1744830408}, {4, impl.GroupOrder - 1, 536870895}, {4, impl.GroupOrder, 1}, {4, impl.GroupOrder + 1, 4},
		{4, 2 * impl.GroupOrder, 1}, {4, 1 << 31, 1601288767}, {4, math.MaxInt, 1896043643}, {16, impl.GroupOrder - 1, 1744830408},
		{9, 123456789, 913219754}, {25, math.MaxInt, 595184729}, {impl.GroupMod - 2, 3, impl.GroupMod - 8}, {3, 5, 243},
	} {
		if got, ok := impl.GroupPow(c.a, c.e); !ok || got != c.want {
			t.Errorf("GroupPow(%d, %d) is %d, %t, want %d", c.a, c.e, got, ok, c.want)
		}
	}
}

func TestGroupPowOfElementsAtTheEdges(t *testing.T) {
	for _, a := range someElements() {
		for _, c := range []struct{ e, want int }{
			{0, 1}, {1, a}, {impl.GroupOrder - 1, mustInv(t, a)}, {impl.GroupOrder, 1}, {impl.GroupOrder + 1, a}, {2 * impl.GroupOrder, 1}, {2*impl.GroupOrder + 1, a},
		} {
			if got := mustPow(t, a, c.e); got != c.want {
				t.Errorf("GroupPow(%d, %d) is %d, want %d", a, c.e, got, c.want)
			}
		}
		for _, e := range append(someScalars(), append(edgeExponents, math.MaxInt)...) {
			if got := mustPow(t, a, e); got != powerOf(a, e) {
				t.Errorf("GroupPow(%d, %d) is %d, want %d", a, e, got, powerOf(a, e))
			}
		}
	}
}

func TestGroupPowRefusesWhatIsNotValid(t *testing.T) {
	for _, no := range noElements {
		for _, e := range append([]int{-1, math.MinInt, math.MaxInt}, edgeExponents...) {
			if power, ok := impl.GroupPow(no, e); ok || power != 0 {
				t.Errorf("GroupPow(%d, %d) is %d, %t", no, e, power, ok)
			}
		}
	}
	for _, a := range []int{1, impl.GroupBase, 9, impl.GroupMod - 2} {
		for _, e := range []int{-1, -2, -impl.GroupOrder, 1 - impl.GroupOrder, -1 << 32, math.MinInt + 1, math.MinInt} {
			if power, ok := impl.GroupPow(a, e); ok || power != 0 {
				t.Errorf("GroupPow(%d, %d) is %d, %t", a, e, power, ok)
			}
		}
	}
}

func TestP27GroupPowOfOneMore(t *testing.T) {
	for _, a := range someElements() {
		for _, e := range append(someScalars(), edgeExponents...) {
			if got, want := mustPow(t, a, e+1), mustMul(t, mustPow(t, a, e), a); got != want {
				t.Errorf("GroupPow(%d, %d+1) is %d, want %d", a, e, got, want)
			}
		}
	}
}

func TestGroupPowCountsUp(t *testing.T) {
	for _, a := range []int{1, impl.GroupBase, 9, impl.GroupMod - 2} {
		power := 1
		for e := range 300 {
			if got := mustPow(t, a, e); got != power {
				t.Errorf("GroupPow(%d, %d) is %d, want %d", a, e, got, power)
			}
			power = productOf(power, a, impl.GroupMod)
		}
	}
}

func TestGroupInvTellsTheNumbers(t *testing.T) {
	for _, c := range []struct{ a, want int }{
		{1, 1}, {4, 536870895}, {16, 1744830408}, {9, 1670265006}, {25, 515396059}, {impl.GroupMod - 2, impl.GroupOrder}, {impl.GroupOrder, impl.GroupMod - 2},
	} {
		if got, ok := impl.GroupInv(c.a); !ok || got != c.want {
			t.Errorf("GroupInv(%d) is %d, %t, want %d", c.a, got, ok, c.want)
		}
	}
}

func TestGroupInvRefusesWhatIsNoElement(t *testing.T) {
	for _, no := range noElements {
		if inverse, ok := impl.GroupInv(no); ok || inverse != 0 {
			t.Errorf("GroupInv(%d) is %d, %t", no, inverse, ok)
		}
	}
}

func TestP28GroupMulOfGroupInvIsOne(t *testing.T) {
	for _, a := range someElements() {
		inverse := mustInv(t, a)
		if mustMul(t, a, inverse) != 1 || mustMul(t, inverse, a) != 1 || productOf(a, inverse, impl.GroupMod) != 1 {
			t.Errorf("the product of %d and GroupInv, %d, is not 1", a, inverse)
		}
		if inverse < 1 || inverse >= impl.GroupMod {
			t.Errorf("GroupInv(%d) is %d", a, inverse)
		}
		if got := mustInv(t, inverse); got != a {
			t.Errorf("GroupInv of GroupInv(%d) is %d", a, got)
		}
	}
}

func TestScalarInvTellsTheNumbers(t *testing.T) {
	for _, c := range []struct{ x, want int }{
		{1, 1}, {2, 536870895}, {3, 357913930}, {4, 805306342}, {7, 920350105}, {1000, 956703934}, {123456789, 193396467},
		{536870895, 2}, {impl.GroupOrder - 2, 536870894}, {impl.GroupOrder - 1, impl.GroupOrder - 1},
	} {
		if got, ok := impl.ScalarInv(c.x); !ok || got != c.want {
			t.Errorf("ScalarInv(%d) is %d, %t, want %d", c.x, got, ok, c.want)
		}
	}
}

func TestP29ProductOfScalarInvIsOne(t *testing.T) {
	list := someScalars()
	for n := range 2000 {
		list = append(list, n+1, impl.GroupOrder-1-n)
	}
	for _, x := range list {
		inverse, ok := impl.ScalarInv(x)
		if !ok || inverse < 1 || inverse >= impl.GroupOrder || productOf(x, inverse, impl.GroupOrder) != 1 {
			t.Errorf("ScalarInv(%d) is %d, %t", x, inverse, ok)
		}
	}
}

func TestScalarInvRefusesOtherNumbers(t *testing.T) {
	for _, x := range noSecrets {
		if inverse, ok := impl.ScalarInv(x); ok || inverse != 0 {
			t.Errorf("ScalarInv(%d) is %d, %t", x, inverse, ok)
		}
	}
}

func TestKeyOfTellsTheNumbers(t *testing.T) {
	for _, c := range []struct{ secret, want int }{
		{1, 4}, {2, 16}, {3, 64}, {11, 4194304}, {15, 1073741824}, {16, 138}, {22, 565248}, {33, 76176}, {1000000, 1910887002},
		{536870894, impl.GroupOrder}, {536870895, impl.GroupMod - 2}, {impl.GroupOrder - 2, 1744830408}, {impl.GroupOrder - 1, 536870895},
	} {
		if got, ok := impl.KeyOf(c.secret); !ok || got != c.want {
			t.Errorf("KeyOf(%d) is %d, %t, want %d", c.secret, got, ok, c.want)
		}
	}
}

func TestP30KeyOfIsAValidKey(t *testing.T) {
	for _, secret := range someScalars() {
		key, ok := impl.KeyOf(secret)
		if !ok || key != powerOf(4, secret) || key != mustPow(t, impl.GroupBase, secret) {
			t.Errorf("KeyOf(%d) is %d, %t, want %d", secret, key, ok, powerOf(4, secret))
		}
		if !impl.KeyOk(key) {
			t.Errorf("KeyOf(%d) is %d, which is no key", secret, key)
		}
	}
}

func TestKeyOfRefusesOtherSecrets(t *testing.T) {
	for _, secret := range noSecrets {
		if key, ok := impl.KeyOf(secret); ok || key != 0 {
			t.Errorf("KeyOf(%d) is %d, %t", secret, key, ok)
		}
	}
}

func TestKeyOkTellsTheKeys(t *testing.T) {
	for _, c := range []struct {
		a    int
		want bool
	}{
		{0, false}, {1, false}, {2, false}, {3, true}, {impl.GroupBase, true}, {impl.GroupMod - 2, true}, {impl.GroupMod - 1, false}, {impl.GroupMod, false},
		{impl.GroupMod + 1, false}, {impl.GroupMod + 4, false}, {-1, false}, {-4, false}, {4 - impl.GroupMod, false}, {math.MinInt, false}, {math.MaxInt, false},
	} {
		if got := impl.KeyOk(c.a); got != c.want {
			t.Errorf("KeyOk(%d) is %t", c.a, got)
		}
	}
}

func TestP31KeyOkOfTheElementsButOne(t *testing.T) {
	list := slices.Concat(noElements, someElements())
	for n := range 2000 {
		list = append(list, n, impl.GroupMod-n, -n, impl.GroupMod+n)
	}
	for _, a := range list {
		if got, want := impl.KeyOk(a), impl.GroupOk(a) && a != 1; got != want || got != (isSquare(a) && a != 1) {
			t.Errorf("KeyOk(%d) is %t", a, got)
		}
	}
}

func TestP32GroupMulOfPowers(t *testing.T) {
	below := impl.GroupOrder - 1
	pairs := [][2]int{
		{0, 0}, {0, 1}, {1, 1}, {0, below}, {1, below - 1}, {1, below}, {2, below}, {below, below}, {below - 1, below},
		{below / 2, below / 2}, {below / 2, below/2 + 1}, {impl.GroupOrder, 0}, {impl.GroupOrder, impl.GroupOrder}, {impl.GroupOrder + 1, below}, {math.MaxInt / 2, math.MaxInt / 2},
	}
	list := someScalars()
	for i, d := range list {
		pairs = append(pairs, [2]int{d, list[(i*5+2)%len(list)]}, [2]int{d, below - d}, [2]int{d, impl.GroupOrder - d}, [2]int{d, impl.GroupOrder + 1 - d})
	}
	for _, a := range []int{1, 3, impl.GroupBase, 9, impl.GroupMod - 2, 1910887002} {
		for _, pair := range pairs {
			d, e := pair[0], pair[1]
			if got, want := mustMul(t, mustPow(t, a, d), mustPow(t, a, e)), mustPow(t, a, (d+e)%impl.GroupOrder); got != want {
				t.Errorf("GroupMul of the powers of %d with %d and %d is %d, want %d", a, d, e, got, want)
			}
			if got, other := mustMul(t, mustPow(t, a, d), mustPow(t, a, e)), mustMul(t, mustPow(t, a, e), mustPow(t, a, d)); got != other {
				t.Errorf("GroupMul of the powers of %d with %d and %d is %d, and %d in the other order", a, d, e, got, other)
			}
		}
	}
}
