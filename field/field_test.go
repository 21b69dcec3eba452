package field

import (
	"math"
	"math/big"
	"math/rand/v2"
	"testing"

	"chronicle/api"
)

const ones = math.MaxUint64

var (
	zero     = api.Nat{}
	one      = api.Nat{1}
	greatest = api.Nat{ones, ones, ones, ones}
	widest   = api.Wide{ones, ones, ones, ones, ones, ones, ones, ones}
)

// noModulus are numbers of no modulus.
var noModulus = []int{-1, -2, -3, -4, 4, 5, 7, 8, 256, math.MinInt32, math.MaxInt32, math.MinInt, math.MaxInt}

// bigModuli are the moduli as the chapter writes them, reckoned apart from the package's table.
func bigModuli() [4]*big.Int {
	total := func(terms ...*big.Int) *big.Int {
		sum := new(big.Int)
		for _, term := range terms {
			sum.Add(sum, term)
		}
		return sum
	}
	less := func(a *big.Int) *big.Int { return new(big.Int).Neg(a) }
	return [4]*big.Int{
		total(twoTo(256), less(twoTo(224)), twoTo(192), twoTo(96), big.NewInt(-1)),
		total(twoTo(256), less(twoTo(224)), twoTo(192), less(decimal("89188191075325690597107910205041859247"))),
		total(twoTo(255), big.NewInt(-19)),
		total(twoTo(252), decimal("27742317777372353535851937790883648493")),
	}
}

func twoTo(n uint) *big.Int { return new(big.Int).Lsh(big.NewInt(1), n) }

func decimal(s string) *big.Int {
	n, _ := new(big.Int).SetString(s, 10)
	return n
}

func toBig(limbs ...uint64) *big.Int {
	n := new(big.Int)
	for i := len(limbs) - 1; i >= 0; i-- {
		n.Lsh(n, 64)
		n.Add(n, new(big.Int).SetUint64(limbs[i]))
	}
	return n
}

func bigNat(a api.Nat) *big.Int   { return toBig(a[:]...) }
func bigWide(w api.Wide) *big.Int { return toBig(w[:]...) }

// toWide takes n, below 2^512, apart into limbs.
func toWide(n *big.Int) api.Wide {
	var w api.Wide
	mask := new(big.Int).SetUint64(ones)
	for i := range w {
		limb := new(big.Int).Rsh(n, uint(64*i))
		w[i] = limb.And(limb, mask).Uint64()
	}
	return w
}

func toNat(n *big.Int) api.Nat {
	w := toWide(n)
	return api.Nat(w[:4])
}

// natOf answers m + d for a small d.
func natOf(m *big.Int, d int64) api.Nat { return toNat(new(big.Int).Add(m, big.NewInt(d))) }

func newRand() *rand.Rand { return rand.New(rand.NewPCG(2, 7)) }

func randomNat(r *rand.Rand) api.Nat {
	return api.Nat{r.Uint64(), r.Uint64(), r.Uint64(), r.Uint64()}
}

// samples are the ends of a Nat, those of every multiple of m that a Nat can be, and some numbers that follow no rule.
func samples(m *big.Int) []api.Nat {
	list := []api.Nat{
		{}, {1}, {2}, {3}, {19}, {ones}, {0, 1}, {0, 0, 1}, {0, 0, 0, 1},
		{ones, ones, ones}, {0, 0, 0, 1 << 63}, {ones, ones, ones, 1<<63 - 1},
		greatest, {ones - 1, ones, ones, ones},
	}
	for multiple := new(big.Int).Set(m); multiple.BitLen() <= 256; multiple.Add(multiple, m) {
		for d := int64(-2); d <= 2; d++ {
			list = append(list, natOf(multiple, d))
		}
	}
	list = append(list, toNat(new(big.Int).Rsh(m, 1)), natOf(new(big.Int).Rsh(m, 1), 1))
	r := newRand()
	for range 12 {
		list = append(list, randomNat(r))
	}
	return list
}

// forEach calls do with each modulus and its number.
func forEach(do func(k int, m *big.Int)) {
	for k, m := range bigModuli() {
		do(k, m)
	}
}

// expect holds got against want, and against the modulus.
func expect(t *testing.T, m *big.Int, got api.Nat, want *big.Int, what string, args ...any) {
	t.Helper()
	if want = new(big.Int).Mod(want, m); bigNat(got).Cmp(want) != 0 {
		t.Errorf("%s %x modulo %x = %x, want %x", what, args, m, got, want)
	}
}

// P2.1
func TestModuli(t *testing.T) {
	forEach(func(k int, m *big.Int) {
		if got := Modulus(k); bigNat(got).Cmp(m) != 0 {
			t.Errorf("Modulus(%d) = %x, want %x", k, got, m)
		}
	})
}

// P2.1
func TestExampleOfTheChapter(t *testing.T) {
	m := bigModuli()[2]
	if got, want := Mul(2, natOf(m, -1), api.Nat{2}), natOf(m, -2); got != want {
		t.Errorf("Mul(2, 2^255 - 20, 2) = %x, want %x", got, want)
	}
}

// P2.1
func TestWithoutAModulusAllIsZero(t *testing.T) {
	for _, k := range noModulus {
		for _, a := range []api.Nat{zero, one, {2}, {5, 6, 7, 8}, greatest} {
			for name, got := range map[string]api.Nat{
				"Modulus":           Modulus(k),
				"Reduce":            Reduce(k, api.Wide{a[0], a[1], a[2], a[3]}),
				"Reduce of a large": Reduce(k, api.Wide{4: a[0], 5: a[1], 6: a[2], 7: a[3]}),
				"Reduce of all":     Reduce(k, widest),
				"Fold":              Fold(k, a),
				"Add":               Add(k, a, api.Nat{3}),
				"Add turned":        Add(k, api.Nat{3}, a),
				"Sub":               Sub(k, a, api.Nat{3}),
				"Sub turned":        Sub(k, api.Nat{3}, a),
				"Mul":               Mul(k, a, api.Nat{3}),
				"Pow":               Pow(k, a, api.Nat{3}),
				"Pow of 0":          Pow(k, a, zero),
				"Pow of all":        Pow(k, a, greatest),
				"Inv":               Inv(k, a),
			} {
				if got != zero {
					t.Errorf("%s with k = %d of %x = %x, want 0", name, k, a, got)
				}
			}
		}
	}
}

// P2.1
func TestReduceOfEdges(t *testing.T) {
	forEach(func(k int, m *big.Int) {
		quotient := new(big.Int).Div(bigWide(widest), m)
		factors := []*big.Int{big.NewInt(0), big.NewInt(1), big.NewInt(2), big.NewInt(16), m, quotient}
		for i := uint(0); i < 256; i += 7 {
			factors = append(factors, twoTo(i), new(big.Int).Rsh(quotient, i))
		}
		for _, f := range factors {
			for d := int64(-3); d <= 3; d++ {
				n := new(big.Int).Mul(f, m)
				n.Add(n, big.NewInt(d))
				if n.Sign() < 0 || n.BitLen() > 512 {
					continue
				}
				expect(t, m, Reduce(k, toWide(n)), n, "Reduce", n)
			}
		}
		expect(t, m, Reduce(k, widest), bigWide(widest), "Reduce", widest)
		for i := range uint(512) {
			expect(t, m, Reduce(k, toWide(twoTo(i))), twoTo(i), "Reduce of 2 to the power", i)
			below := new(big.Int).Sub(twoTo(i), big.NewInt(1))
			expect(t, m, Reduce(k, toWide(below)), below, "Reduce of 1 less than 2 to the power", i)
		}
	})
}

// P2.1: a division goes wrong, if it does, where a limb is near its ends or near a limb of the modulus.
func TestReduceOfLimbsThatAreEdges(t *testing.T) {
	r := newRand()
	forEach(func(k int, m *big.Int) {
		limbs := []uint64{0, 1, 2, ones, ones - 1, 1 << 63, 1<<63 - 1}
		for _, limb := range Modulus(k) {
			limbs = append(limbs, limb-1, limb, limb+1)
		}
		for range 20000 {
			var w api.Wide
			for i := range w {
				w[i] = limbs[r.IntN(len(limbs))]
				if r.IntN(6) == 0 {
					w[i] = r.Uint64()
				}
			}
			expect(t, m, Reduce(k, w), bigWide(w), "Reduce", w)
		}
	})
}

// P2.1: just below a multiple of the modulus a digit of the quotient is guessed too great, by 1 to 3.
func TestReduceBelowMultiples(t *testing.T) {
	r := newRand()
	forEach(func(k int, m *big.Int) {
		for range 20000 {
			// A rest below m, and a quotient with great limbs, each shortened by chance.
			digit := new(big.Int).SetUint64(ones - r.Uint64()>>r.IntN(64))
			n := new(big.Int).Mul(digit, m)
			n.Sub(n, new(big.Int).Rsh(bigNat(randomNat(r)), uint(r.IntN(256))))
			if n.Sign() < 0 {
				continue
			}
			n.Lsh(n, uint(64*r.IntN(4)))
			expect(t, m, Reduce(k, toWide(n)), n, "Reduce", n)
		}
	})
}

// P2.1
func TestFold(t *testing.T) {
	forEach(func(k int, m *big.Int) {
		for _, a := range samples(m) {
			expect(t, m, Fold(k, a), bigNat(a), "Fold", a)
		}
		if Fold(k, Modulus(k)) != zero || Fold(k, natOf(m, -1)) != natOf(m, -1) {
			t.Errorf("Fold(%d) of the modulus, or of 1 less, isn't 0, or itself", k)
		}
	})
}

// P2.1
func TestPairs(t *testing.T) {
	forEach(func(k int, m *big.Int) {
		for _, a := range samples(m) {
			for _, b := range samples(m) {
				x, y := bigNat(a), bigNat(b)
				expect(t, m, Add(k, a, b), new(big.Int).Add(x, y), "Add", a, b)
				expect(t, m, Sub(k, a, b), new(big.Int).Sub(x, y), "Sub", a, b)
				expect(t, m, Mul(k, a, b), new(big.Int).Mul(x, y), "Mul", a, b)
			}
		}
	})
}

// P2.1
func TestEdgesByHand(t *testing.T) {
	forEach(func(k int, m *big.Int) {
		minus := natOf(m, -1)
		for _, c := range []struct {
			name      string
			got, want api.Nat
		}{
			{"(m - 1) + 1", Add(k, minus, one), zero},
			{"m + m", Add(k, Modulus(k), Modulus(k)), zero},
			{"(m - 1) + (m - 1)", Add(k, minus, minus), natOf(m, -2)},
			{"0 - 1", Sub(k, zero, one), minus},
			{"1 - (m - 1)", Sub(k, one, minus), api.Nat{2}},
			{"m - 0", Sub(k, Modulus(k), zero), zero},
			{"0 - m", Sub(k, zero, Modulus(k)), zero},
			{"(m - 1) * (m - 1)", Mul(k, minus, minus), one},
			{"m * (2^256 - 1)", Mul(k, Modulus(k), greatest), zero},
			{"2^256 - 1 less itself", Sub(k, greatest, greatest), zero},
		} {
			if c.got != c.want {
				t.Errorf("modulo %x: %s = %x, want %x", m, c.name, c.got, c.want)
			}
		}
	})
}

// P2.1
func TestPow(t *testing.T) {
	r := newRand()
	forEach(func(k int, m *big.Int) {
		exponents := []api.Nat{
			{}, {1}, {2}, {3}, {5}, {ones}, {0, 1}, {0, 0, 0, 1}, {0, 0, 0, 1 << 63}, greatest,
			natOf(m, -2), natOf(m, -1), natOf(m, 0), natOf(m, 1),
			toNat(new(big.Int).Rsh(m, 1)), randomNat(r), randomNat(r),
		}
		for _, a := range samples(m) {
			for _, e := range exponents {
				expect(t, m, Pow(k, a, e), new(big.Int).Exp(bigNat(a), bigNat(e), m), "Pow", a, e)
			}
		}
	})
}

// P2.1
func TestPowOfEdges(t *testing.T) {
	forEach(func(k int, m *big.Int) {
		for _, a := range []api.Nat{zero, one, natOf(m, -1), Modulus(k), greatest} {
			if got := Pow(k, a, zero); got != one {
				t.Errorf("Pow(%d, %x, 0) = %x, want 1", k, a, got)
			}
		}
		for _, e := range []api.Nat{one, {2}, natOf(m, -1), Modulus(k), greatest} {
			if Pow(k, zero, e) != zero || Pow(k, Modulus(k), e) != zero {
				t.Errorf("modulo %x: 0 or the modulus to the power %x isn't 0", m, e)
			}
			if Pow(k, one, e) != one {
				t.Errorf("modulo %x: 1 to the power %x isn't 1", m, e)
			}
		}
		if Pow(k, natOf(m, -1), greatest) != natOf(m, -1) {
			t.Errorf("modulo %x: -1 to an odd power isn't -1", m)
		}
		if got := Pow(k, api.Nat{3}, api.Nat{5}); got != (api.Nat{243}) {
			t.Errorf("Pow(%d, 3, 5) = %x, want 243", k, got)
		}
	})
}

// P2.1
func TestInv(t *testing.T) {
	forEach(func(k int, m *big.Int) {
		for _, a := range samples(m) {
			want := new(big.Int).ModInverse(new(big.Int).Mod(bigNat(a), m), m)
			if want == nil {
				want = new(big.Int)
			}
			expect(t, m, Inv(k, a), want, "Inv", a)
		}
		for multiple := new(big.Int); multiple.BitLen() <= 256; multiple.Add(multiple, m) {
			if got := Inv(k, toNat(multiple)); got != zero {
				t.Errorf("Inv(%d, %x) = %x, want 0", k, multiple, got)
			}
		}
		if Inv(k, one) != one || Inv(k, natOf(m, 1)) != one || Inv(k, natOf(m, -1)) != natOf(m, -1) {
			t.Errorf("modulo %x: the inverse of 1, of 1 more than the modulus or of 1 less isn't 1, 1 and itself", m)
		}
	})
}

// lawSamples are fewer than samples, as they are taken by threes.
func lawSamples(k int, m *big.Int) []api.Nat {
	r := newRand()
	list := []api.Nat{zero, one, {2}, natOf(m, -2), natOf(m, -1), Modulus(k), natOf(m, 1), greatest, {0, 0, 0, 1 << 63}}
	for range 11 {
		list = append(list, randomNat(r))
	}
	return list
}

// P2.2
func TestSumsAndProductsGoTogether(t *testing.T) {
	forEach(func(k int, m *big.Int) {
		list := lawSamples(k, m)
		for _, a := range list {
			for _, b := range list {
				for _, c := range list {
					checkTriple(t, k, a, b, c)
				}
			}
		}
	})
}

func checkTriple(t *testing.T, k int, a, b, c api.Nat) {
	t.Helper()
	if Add(k, Add(k, a, b), c) != Add(k, a, Add(k, b, c)) {
		t.Errorf("k = %d: sums of %x, %x, %x hang on their order", k, a, b, c)
	}
	if Mul(k, Mul(k, a, b), c) != Mul(k, a, Mul(k, b, c)) {
		t.Errorf("k = %d: products of %x, %x, %x hang on their order", k, a, b, c)
	}
	if Mul(k, a, Add(k, b, c)) != Add(k, Mul(k, a, b), Mul(k, a, c)) {
		t.Errorf("k = %d: %x * (%x + %x) isn't the sum of both products", k, a, b, c)
	}
	if Mul(k, a, Sub(k, b, c)) != Sub(k, Mul(k, a, b), Mul(k, a, c)) {
		t.Errorf("k = %d: %x * (%x - %x) isn't the difference of both products", k, a, b, c)
	}
}

// P2.2
func TestPairsMayBeTurned(t *testing.T) {
	forEach(func(k int, m *big.Int) {
		for _, a := range samples(m) {
			for _, b := range samples(m) {
				if Add(k, a, b) != Add(k, b, a) || Mul(k, a, b) != Mul(k, b, a) {
					t.Errorf("k = %d: the sum or the product of %x and %x hangs on their order", k, a, b)
				}
				if Add(k, Sub(k, a, b), b) != Fold(k, a) || Add(k, Sub(k, a, b), Sub(k, b, a)) != zero {
					t.Errorf("k = %d: %x - %x isn't what is missing", k, a, b)
				}
			}
		}
	})
}

// P2.2
func TestZeroAndOne(t *testing.T) {
	forEach(func(k int, m *big.Int) {
		for _, a := range samples(m) {
			if Add(k, a, zero) != Fold(k, a) || Mul(k, a, one) != Fold(k, a) || Mul(k, a, zero) != zero {
				t.Errorf("k = %d: 0 or 1 aren't as they should be with %x", k, a)
			}
		}
	})
}

// P2.2
func TestEachButZeroHasAnInverse(t *testing.T) {
	r := newRand()
	forEach(func(k int, m *big.Int) {
		list := samples(m)
		for range 200 {
			list = append(list, randomNat(r))
		}
		for _, a := range list {
			want := one
			if Fold(k, a) == zero {
				want = zero
			}
			if got := Mul(k, a, Inv(k, a)); got != want {
				t.Errorf("k = %d: %x by its inverse is %x, want %x", k, a, got, want)
			}
			if got := Inv(k, Inv(k, a)); got != Fold(k, a) {
				t.Errorf("k = %d: the inverse of the inverse of %x is %x", k, a, got)
			}
		}
	})
}

// P2.2
func TestPowersGoTogether(t *testing.T) {
	r := newRand()
	forEach(func(k int, m *big.Int) {
		for range 100 {
			a, b := randomNat(r), randomNat(r)
			e := api.Nat{r.Uint64(), r.Uint64()}
			f := api.Nat{r.Uint64(), r.Uint64()}
			sum := toNat(new(big.Int).Add(bigNat(e), bigNat(f)))
			if Mul(k, Pow(k, a, e), Pow(k, a, f)) != Pow(k, a, sum) {
				t.Errorf("k = %d: %x to the powers %x and %x don't make that of the sum", k, a, e, f)
			}
			if Mul(k, Pow(k, a, e), Pow(k, b, e)) != Pow(k, Mul(k, a, b), e) {
				t.Errorf("k = %d: %x and %x to the power %x don't make that of the product", k, a, b, e)
			}
		}
	})
}

func BenchmarkMul(b *testing.B) {
	x, y := api.Nat{ones, 5, ones, 7}, api.Nat{3, ones, 11, ones}
	for b.Loop() {
		x = Mul(1, x, y)
	}
}
