package limb

import (
	"math"
	"math/big"
	"math/rand/v2"
	"testing"

	"chronicle/api"
)

const ones = math.MaxUint64

var greatest = api.Nat{ones, ones, ones, ones}

// toBig reads limbs, the least first, by a way that shares nothing with the package.
func toBig(limbs ...uint64) *big.Int {
	n := new(big.Int)
	for i := len(limbs) - 1; i >= 0; i-- {
		n.Lsh(n, 64)
		n.Add(n, new(big.Int).SetUint64(limbs[i]))
	}
	return n
}

func bigNat(a api.Nat) *big.Int    { return toBig(a[:]...) }
func bigWide(w api.Wide) *big.Int  { return toBig(w[:]...) }
func twoTo(n uint) *big.Int        { return new(big.Int).Lsh(big.NewInt(1), n) }
func sumOf(a, b *big.Int) *big.Int { return new(big.Int).Add(a, b) }
func productOf(a, b *big.Int) *big.Int {
	return new(big.Int).Mul(a, b)
}

// samples are the ends of each limb, numbers that need all four, and some that follow no rule.
func samples() []api.Nat {
	list := []api.Nat{
		{}, {1}, {2}, {3}, {ones}, {ones - 1},
		greatest,
		{ones - 1, ones, ones, ones},
		{0, 0, 0, 1 << 63},
		{ones, ones, ones, 1<<63 - 1},
		{1, 1, 1, 1},
		{0, ones, 0, ones},
		{ones, 0, ones, 0},
		{1 << 63, 1 << 63, 1 << 63, 1 << 63},
		{0x0123456789abcdef, 0xfedcba9876543210, 0x0f1e2d3c4b5a6978, 0x8796a5b4c3d2e1f0},
	}
	for i := 1; i < 4; i++ {
		var one, full, below api.Nat
		one[i], full[i] = 1, ones
		for j := range i {
			below[j] = ones
		}
		list = append(list, one, full, below)
	}
	r := rand.New(rand.NewPCG(1, 2))
	for range 40 {
		list = append(list, api.Nat{r.Uint64(), r.Uint64(), r.Uint64(), r.Uint64()})
	}
	return list
}

// P1.1
func TestAddExamples(t *testing.T) {
	for _, c := range []struct {
		a, b, sum api.Nat
		over      bool
	}{
		{greatest, api.Nat{1}, api.Nat{}, true},
		{greatest, greatest, api.Nat{ones - 1, ones, ones, ones}, true},
		{greatest, api.Nat{}, greatest, false},
		{api.Nat{ones - 1, ones, ones, ones}, api.Nat{1}, greatest, false},
		{api.Nat{0, 0, 0, 1 << 63}, api.Nat{0, 0, 0, 1 << 63}, api.Nat{}, true},
		{api.Nat{ones, ones, ones}, api.Nat{1}, api.Nat{0, 0, 0, 1}, false},
		{api.Nat{1, 2, 3, 4}, api.Nat{10, 20, 30, 40}, api.Nat{11, 22, 33, 44}, false},
	} {
		if sum, over := Add(c.a, c.b); sum != c.sum || over != c.over {
			t.Errorf("Add(%x, %x) = %x, %v, want %x, %v", c.a, c.b, sum, over, c.sum, c.over)
		}
	}
}

// P1.1
func TestSubExamples(t *testing.T) {
	for _, c := range []struct {
		a, b, rest api.Nat
		under      bool
	}{
		{api.Nat{}, api.Nat{1}, greatest, true},
		{api.Nat{}, greatest, api.Nat{1}, true},
		{greatest, greatest, api.Nat{}, false},
		{api.Nat{}, api.Nat{}, api.Nat{}, false},
		{api.Nat{0, 0, 0, 1}, api.Nat{1}, api.Nat{ones, ones, ones}, false},
		{api.Nat{11, 22, 33, 44}, api.Nat{10, 20, 30, 40}, api.Nat{1, 2, 3, 4}, false},
		{api.Nat{5, 0, 0, 1}, api.Nat{6, 0, 0, 1}, greatest, true},
		{api.Nat{6, 0, 0, 1}, api.Nat{5, 0, 0, 2}, api.Nat{1, 0, 0, ones}, true},
	} {
		if rest, under := Sub(c.a, c.b); rest != c.rest || under != c.under {
			t.Errorf("Sub(%x, %x) = %x, %v, want %x, %v", c.a, c.b, rest, under, c.rest, c.under)
		}
	}
}

// P1.1
func TestCmpExamples(t *testing.T) {
	for _, c := range []struct {
		a, b api.Nat
		want int
	}{
		{api.Nat{}, api.Nat{}, 0},
		{greatest, greatest, 0},
		{api.Nat{1, 2, 3, 4}, api.Nat{1, 2, 3, 4}, 0},
		{api.Nat{1, 2, 3, 4}, api.Nat{2, 2, 3, 4}, -1},
		{api.Nat{9, 9, 9, 3}, api.Nat{1, 1, 1, 4}, -1},
		{api.Nat{1, 1, 1, 4}, api.Nat{9, 9, 9, 3}, 1},
		{api.Nat{9, 9, 2, 4}, api.Nat{1, 1, 3, 4}, -1},
		{api.Nat{9, 2, 3, 4}, api.Nat{1, 3, 3, 4}, -1},
		{api.Nat{1, 3, 3, 4}, api.Nat{9, 2, 3, 4}, 1},
		{api.Nat{0, 0, 0, 1 << 63}, api.Nat{0, 0, 0, 1}, 1},
	} {
		if got := Cmp(c.a, c.b); got != c.want {
			t.Errorf("Cmp(%x, %x) = %d, want %d", c.a, c.b, got, c.want)
		}
	}
}

// P1.1
func TestMulExamples(t *testing.T) {
	for _, c := range []struct {
		a, b api.Nat
		want api.Wide
	}{
		{greatest, greatest, api.Wide{1, 0, 0, 0, ones - 1, ones, ones, ones}},
		{greatest, api.Nat{}, api.Wide{}},
		{api.Nat{}, greatest, api.Wide{}},
		{greatest, api.Nat{1}, api.Wide{ones, ones, ones, ones}},
		{greatest, api.Nat{2}, api.Wide{ones - 1, ones, ones, ones, 1}},
		{api.Nat{0, 0, 0, 1}, api.Nat{0, 0, 0, 1}, api.Wide{0, 0, 0, 0, 0, 0, 1}},
		{api.Nat{1, 1, 1, 1}, api.Nat{1, 1, 1, 1}, api.Wide{1, 2, 3, 4, 3, 2, 1}},
		{api.Nat{1, 2, 3, 4}, api.Nat{5, 6, 7, 8}, api.Wide{5, 16, 34, 60, 61, 52, 32}},
	} {
		if got := Mul(c.a, c.b); got != c.want {
			t.Errorf("Mul(%x, %x) = %x, want %x", c.a, c.b, got, c.want)
		}
	}
}

// P1.1
func TestPairsAsReckonedByLongNumbers(t *testing.T) {
	for _, a := range samples() {
		for _, b := range samples() {
			checkPair(t, a, b)
		}
	}
}

func checkPair(t *testing.T, a, b api.Nat) {
	t.Helper()
	x, y, end := bigNat(a), bigNat(b), twoTo(256)
	order := x.Cmp(y)
	if got := Cmp(a, b); got != order {
		t.Errorf("Cmp(%x, %x) = %d, want %d", a, b, got, order)
	}
	sum, over := sumOf(x, y), false
	if sum.Cmp(end) >= 0 {
		sum, over = sum.Sub(sum, end), true
	}
	if got, c := Add(a, b); bigNat(got).Cmp(sum) != 0 || c != over {
		t.Errorf("Add(%x, %x) = %x, %v, want %x, %v", a, b, got, c, sum, over)
	}
	rest := new(big.Int).Sub(x, y)
	if order < 0 {
		rest.Add(rest, end)
	}
	if got, c := Sub(a, b); bigNat(got).Cmp(rest) != 0 || c != (order < 0) {
		t.Errorf("Sub(%x, %x) = %x, %v, want %x, %v", a, b, got, c, rest, order < 0)
	}
	if got := Mul(a, b); bigWide(got).Cmp(productOf(x, y)) != 0 {
		t.Errorf("Mul(%x, %x) = %x, want %x", a, b, got, productOf(x, y))
	}
}

// P1.1
func TestPick(t *testing.T) {
	a, b := api.Nat{1, 2, 3, 4}, api.Nat{5, 6, 7, 8}
	if got := Pick(true, a, b); got != a {
		t.Errorf("Pick(true) = %x, want %x", got, a)
	}
	if got := Pick(false, a, b); got != b {
		t.Errorf("Pick(false) = %x, want %x", got, b)
	}
}

// P1.1
func TestBitOfEachPlace(t *testing.T) {
	for place := range 256 {
		var only api.Nat
		only[place/64] = 1 << (place % 64)
		but, _ := Sub(greatest, only)
		for i := range 256 {
			want := 0
			if i == place {
				want = 1
			}
			if got := Bit(only, i); got != want {
				t.Fatalf("Bit(2^%d, %d) = %d, want %d", place, i, got, want)
			}
			if got := Bit(but, i); got != 1-want {
				t.Fatalf("Bit(%x, %d) = %d, want %d", but, i, got, 1-want)
			}
		}
	}
	for _, a := range samples() {
		for i := range 256 {
			if got, want := Bit(a, i), int(bigNat(a).Bit(i)); got != want {
				t.Fatalf("Bit(%x, %d) = %d, want %d", a, i, got, want)
			}
		}
	}
}

// P1.1
func TestBitOutsideTheNumberIsNone(t *testing.T) {
	for _, i := range []int{
		-1, -2, -63, -64, -65, -255, -256, -257, math.MinInt32, math.MinInt, math.MinInt + 1,
		256, 257, 319, 320, 512, math.MaxInt32, math.MaxInt - 1, math.MaxInt,
	} {
		if got := Bit(greatest, i); got != 0 {
			t.Errorf("Bit(2^256 - 1, %d) = %d, want 0", i, got)
		}
	}
	if Bit(greatest, 0) != 1 || Bit(greatest, 255) != 1 {
		t.Error("the first and the last bit of 2^256 - 1 aren't 1")
	}
}

// P1.1
func TestHalf(t *testing.T) {
	for _, c := range []struct{ a, want api.Nat }{
		{api.Nat{}, api.Nat{}},
		{api.Nat{1}, api.Nat{}},
		{api.Nat{2}, api.Nat{1}},
		{api.Nat{7}, api.Nat{3}},
		{greatest, api.Nat{ones, ones, ones, 1<<63 - 1}},
		{api.Nat{1, 1, 1, 1}, api.Nat{1 << 63, 1 << 63, 1 << 63, 0}},
		{api.Nat{0, 0, 0, 1 << 63}, api.Nat{0, 0, 0, 1 << 62}},
		{api.Nat{3, 2, 1, 5}, api.Nat{1, 1<<63 | 1, 1 << 63, 2}},
	} {
		if got := Half(c.a); got != c.want {
			t.Errorf("Half(%x) = %x, want %x", c.a, got, c.want)
		}
	}
	for _, a := range samples() {
		want := new(big.Int).Rsh(bigNat(a), 1)
		if got := Half(a); bigNat(got).Cmp(want) != 0 {
			t.Errorf("Half(%x) = %x, want %x", a, got, want)
		}
	}
}

// P1.2
func TestWhatIsAddedIsTakenAwayAgain(t *testing.T) {
	for _, a := range samples() {
		for _, b := range samples() {
			sum, over := Add(a, b)
			if back, under := Sub(sum, b); back != a || under != over {
				t.Errorf("%x + %x - %x = %x, %v, want %x, %v", a, b, b, back, under, a, over)
			}
			rest, under := Sub(a, b)
			if back, over := Add(rest, b); back != a || over != under {
				t.Errorf("%x - %x + %x = %x, %v, want %x, %v", a, b, b, back, over, a, under)
			}
		}
	}
}

// P1.2
func TestProductByASumIsTheSumOfBothProducts(t *testing.T) {
	list := samples()
	for _, a := range list {
		for _, b := range list {
			for _, c := range list {
				checkSpread(t, a, b, c)
			}
		}
	}
}

func checkSpread(t *testing.T, a, b, c api.Nat) {
	t.Helper()
	sum, over := Add(b, c)
	whole := bigWide(Mul(a, sum))
	if over {
		// Add left out 2^256 of the sum, and so a times as much of the product.
		whole.Add(whole, new(big.Int).Lsh(bigNat(a), 256))
	}
	if both := sumOf(bigWide(Mul(a, b)), bigWide(Mul(a, c))); whole.Cmp(both) != 0 {
		t.Errorf("%x * (%x + %x): %x by the sum, %x by both products", a, b, c, whole, both)
	}
}
