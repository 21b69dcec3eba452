package codec

import (
	"bytes"
	"math"
	"math/big"
	"math/rand/v2"
	"slices"
	"testing"

	"chronicle/api"
)

const ones = math.MaxUint64

var greatest = api.Nat{ones, ones, ones, ones}

// counted is the number whose bytes are 1 to 32, the least significant one first: no two are the same.
var counted = api.Nat{0x0807060504030201, 0x100f0e0d0c0b0a09, 0x1817161514131211, 0x201f1e1d1c1b1a19}

// wrongSizes are numbers of bytes that are neither a Nat's nor a Wide's.
var wrongSizes = []int{0, 1, 2, 4, 8, 16, 24, 30, 31, 33, 34, 40, 62, 63, 65, 66, 96, 128, 256, 288, 320, 65568, 65600}

// upTo answers the bytes first, first + 1, and so on.
func upTo(first, n int) []byte {
	b := make([]byte, n)
	for i := range b {
		b[i] = byte(first + i)
	}
	return b
}

func turned(b []byte) []byte {
	b = bytes.Clone(b)
	slices.Reverse(b)
	return b
}

// toBig reads limbs, the least first, by a way that shares nothing with the package.
func toBig(limbs ...uint64) *big.Int {
	n := new(big.Int)
	for i := len(limbs) - 1; i >= 0; i-- {
		n.Lsh(n, 64)
		n.Add(n, new(big.Int).SetUint64(limbs[i]))
	}
	return n
}

func bigNat(a api.Nat) *big.Int   { return toBig(a[:]...) }
func bigWide(w api.Wide) *big.Int { return toBig(w[:]...) }

// toNat takes n, below 2^256, apart into limbs.
func toNat(n *big.Int) api.Nat {
	var a api.Nat
	mask := new(big.Int).SetUint64(ones)
	for i := range a {
		part := new(big.Int).Rsh(n, uint(64*i))
		a[i] = part.And(part, mask).Uint64()
	}
	return a
}

func newRand() *rand.Rand { return rand.New(rand.NewPCG(3, 11)) }

// samples are the ends of a Nat and of its limbs, each single bit and each single byte, and some numbers that follow no rule.
func samples() []api.Nat {
	list := []api.Nat{
		{}, {1}, {2}, {255}, {256}, {258}, {ones}, {0, ones}, {0, 0, ones}, {0, 0, 0, ones},
		greatest, {ones - 1, ones, ones, ones}, {ones, ones, ones, ones - 1}, {1, 2, 3, 4}, counted,
	}
	for i := range 256 {
		var bit api.Nat
		bit[i/64] = 1 << (i % 64)
		list = append(list, bit)
	}
	for i := range 32 {
		var full api.Nat
		full[i/8] = 0xff << (8 * (i % 8))
		list = append(list, full)
	}
	r := newRand()
	for range 200 {
		list = append(list, api.Nat{r.Uint64(), r.Uint64(), r.Uint64(), r.Uint64()})
	}
	return list
}

// texts are n bytes each: all alike, all different, one that is not 0 in each place, and some that follow no rule.
func texts(n int) [][]byte {
	list := [][]byte{make([]byte, n), bytes.Repeat([]byte{0xff}, n), bytes.Repeat([]byte{0x80}, n), upTo(1, n), turned(upTo(1, n)), upTo(200, n)}
	for i := range n {
		for _, x := range []byte{1, 0x7f, 0x80, 0xff} {
			b := make([]byte, n)
			b[i] = x
			list = append(list, b)
		}
	}
	r := newRand()
	for range 200 {
		b := make([]byte, n)
		for i := range b {
			b[i] = byte(r.Uint32())
		}
		list = append(list, b)
	}
	return list
}

// P3.1: the chapter's example.
func TestPutLittleOf258(t *testing.T) {
	want := append([]byte{2, 1}, make([]byte, 30)...)
	if got := PutLittle(api.Nat{258}); !bytes.Equal(got, want) {
		t.Errorf("PutLittle(258) = %v, want %v", got, want)
	}
	if got := PutBig(api.Nat{258}); !bytes.Equal(got, turned(want)) {
		t.Errorf("PutBig(258) = %v, want %v", got, turned(want))
	}
}

// P3.1
func TestNatsByHand(t *testing.T) {
	last := append(make([]byte, 31), 1)
	for _, c := range []struct {
		a      api.Nat
		little []byte
	}{
		{api.Nat{}, make([]byte, 32)},
		{api.Nat{1}, turned(last)},
		{api.Nat{0, 0, 0, 1 << 56}, last},
		{greatest, bytes.Repeat([]byte{0xff}, 32)},
		{counted, upTo(1, 32)},
		{api.Nat{0, 1}, append(append(make([]byte, 8), 1), make([]byte, 23)...)},
		{api.Nat{0, 0, 0x0200}, append(append(make([]byte, 17), 2), make([]byte, 14)...)},
		{api.Nat{1 << 63}, append(append(make([]byte, 7), 0x80), make([]byte, 24)...)},
	} {
		if got, ok := Little(c.little); got != c.a || !ok {
			t.Errorf("Little(%x) = %x, %v, want %x, true", c.little, got, ok, c.a)
		}
		if got, ok := Big(turned(c.little)); got != c.a || !ok {
			t.Errorf("Big(%x) = %x, %v, want %x, true", turned(c.little), got, ok, c.a)
		}
		if got := PutLittle(c.a); !bytes.Equal(got, c.little) {
			t.Errorf("PutLittle(%x) = %x, want %x", c.a, got, c.little)
		}
		if got := PutBig(c.a); !bytes.Equal(got, turned(c.little)) {
			t.Errorf("PutBig(%x) = %x, want %x", c.a, got, turned(c.little))
		}
	}
}

// P3.1
func TestWidesByHand(t *testing.T) {
	first, last := make([]byte, 64), make([]byte, 64)
	first[0], last[63] = 1, 1
	for _, c := range []struct {
		b    []byte
		want api.Wide
	}{
		{make([]byte, 64), api.Wide{}},
		{first, api.Wide{1}},
		{last, api.Wide{7: 1 << 56}},
		{bytes.Repeat([]byte{0xff}, 64), api.Wide{ones, ones, ones, ones, ones, ones, ones, ones}},
		{upTo(1, 64), api.Wide{
			0x0807060504030201, 0x100f0e0d0c0b0a09, 0x1817161514131211, 0x201f1e1d1c1b1a19,
			0x2827262524232221, 0x302f2e2d2c2b2a29, 0x3837363534333231, 0x403f3e3d3c3b3a39,
		}},
	} {
		if got, ok := Wide(c.b); got != c.want || !ok {
			t.Errorf("Wide(%x) = %x, %v, want %x, true", c.b, got, ok, c.want)
		}
	}
}

// P3.1
func TestBytesAsReadByLongNumbers(t *testing.T) {
	for _, b := range texts(32) {
		if got, ok := Big(b); bigNat(got).Cmp(new(big.Int).SetBytes(b)) != 0 || !ok {
			t.Errorf("Big(%x) = %x, %v", b, got, ok)
		}
		if got, ok := Little(b); bigNat(got).Cmp(new(big.Int).SetBytes(turned(b))) != 0 || !ok {
			t.Errorf("Little(%x) = %x, %v", b, got, ok)
		}
	}
	for _, b := range texts(64) {
		if got, ok := Wide(b); bigWide(got).Cmp(new(big.Int).SetBytes(turned(b))) != 0 || !ok {
			t.Errorf("Wide(%x) = %x, %v", b, got, ok)
		}
	}
}

// P3.1
func TestBytesAsPutByLongNumbers(t *testing.T) {
	for _, a := range samples() {
		want := bigNat(a).FillBytes(make([]byte, 32))
		if got := PutBig(a); !bytes.Equal(got, want) {
			t.Errorf("PutBig(%x) = %x, want %x", a, got, want)
		}
		if got := PutLittle(a); !bytes.Equal(got, turned(want)) {
			t.Errorf("PutLittle(%x) = %x, want %x", a, got, turned(want))
		}
	}
}

// P3.1
func TestAnotherNumberOfBytesIsNone(t *testing.T) {
	check := func(b []byte) {
		t.Helper()
		if len(b) != 32 {
			if got, ok := Big(b); got != (api.Nat{}) || ok {
				t.Errorf("Big of %d bytes = %x, %v, want 0, false", len(b), got, ok)
			}
			if got, ok := Little(b); got != (api.Nat{}) || ok {
				t.Errorf("Little of %d bytes = %x, %v, want 0, false", len(b), got, ok)
			}
		}
		if len(b) != 64 {
			if got, ok := Wide(b); got != (api.Wide{}) || ok {
				t.Errorf("Wide of %d bytes = %x, %v, want 0, false", len(b), got, ok)
			}
		}
	}
	check(nil)
	for _, n := range append([]int{32, 64}, wrongSizes...) {
		check(make([]byte, n))
		check(bytes.Repeat([]byte{0xff}, n))
		// Room for more doesn't make it more.
		check(bytes.Repeat([]byte{0xff}, n+64)[:n])
	}
}

// P3.1: a Wide's halves are the numbers of its bytes' halves, the lower one first.
func TestHalvesOfAWide(t *testing.T) {
	for _, b := range texts(64) {
		w, _ := Wide(b)
		low, _ := Little(b[:32])
		high, _ := Little(b[32:])
		if api.Nat(w[:4]) != low || api.Nat(w[4:]) != high {
			t.Errorf("Wide(%x) = %x, its halves %x, %x", b, w, low, high)
		}
	}
	got, ok := Wide(append(PutLittle(counted), PutLittle(greatest)...))
	if want := (api.Wide{counted[0], counted[1], counted[2], counted[3], ones, ones, ones, ones}); got != want || !ok {
		t.Errorf("Wide of two numbers' bytes = %x, %v, want %x, true", got, ok, want)
	}
}

// P3.2
func TestWhatIsPutIsTaken(t *testing.T) {
	for _, a := range samples() {
		if got, ok := Big(PutBig(a)); got != a || !ok {
			t.Errorf("Big(PutBig(%x)) = %x, %v", a, got, ok)
		}
		if got, ok := Little(PutLittle(a)); got != a || !ok {
			t.Errorf("Little(PutLittle(%x)) = %x, %v", a, got, ok)
		}
		if got, ok := Wide(append(PutLittle(a), PutLittle(counted)...)); api.Nat(got[:4]) != a || api.Nat(got[4:]) != counted || !ok {
			t.Errorf("Wide of the bytes of %x and %x = %x, %v", a, counted, got, ok)
		}
	}
}

// P3.2
func TestWhatIsTakenIsPut(t *testing.T) {
	for _, b := range texts(32) {
		a, _ := Big(b)
		if got := PutBig(a); !bytes.Equal(got, b) {
			t.Errorf("PutBig(Big(%x)) = %x", b, got)
		}
		a, _ = Little(b)
		if got := PutLittle(a); !bytes.Equal(got, b) {
			t.Errorf("PutLittle(Little(%x)) = %x", b, got)
		}
	}
}

// P3.2
func TestOneWayIsTheOtherTurnedAbout(t *testing.T) {
	for _, a := range samples() {
		if big, little := PutBig(a), PutLittle(a); !bytes.Equal(turned(big), little) {
			t.Errorf("of %x: PutBig %x, PutLittle %x", a, big, little)
		}
	}
	for _, b := range texts(32) {
		big, bigOK := Big(b)
		little, littleOK := Little(turned(b))
		if big != little || !bigOK || !littleOK {
			t.Errorf("Big(%x) = %x, %v, Little of it turned about = %x, %v", b, big, bigOK, little, littleOK)
		}
	}
	if b := PutLittle(counted); bytes.Equal(b, turned(b)) {
		t.Error("the number that tells the two ways apart reads the same from both ends")
	}
}

// R5: what is handed in is left as it is, its spare room too.
func TestBytesHandedInStay(t *testing.T) {
	for _, n := range append([]int{32, 64}, wrongSizes...) {
		room := upTo(7, n+40)
		was := bytes.Clone(room)
		Big(room[:n])
		Little(room[:n])
		Wide(room[:n])
		if !bytes.Equal(room, was) {
			t.Errorf("%d bytes that were handed in, or those behind them, were changed", n)
		}
	}
}

// R5: what is answered is new memory, and what was handed in isn't kept.
func TestAnswersShareNothing(t *testing.T) {
	for _, put := range []func(api.Nat) []byte{PutBig, PutLittle} {
		one, two := put(counted), put(counted)
		clear(one[:cap(one)])
		if a, b := put(counted), put(counted); !bytes.Equal(two, a) || !bytes.Equal(a, b) {
			t.Error("bytes that were answered changed with others")
		}
	}
	b := upTo(1, 64)
	little, _ := Little(b[:32])
	wide, _ := Wide(b)
	clear(b)
	if little != counted || api.Nat(wide[:4]) != counted {
		t.Error("a number changed with the bytes that it was read from")
	}
}

// bigModuli are the moduli as layer 2's chapter writes them, reckoned apart from the program.
func bigModuli() [4]*big.Int {
	two := func(n uint) *big.Int { return new(big.Int).Lsh(big.NewInt(1), n) }
	decimal := func(s string) *big.Int {
		n, _ := new(big.Int).SetString(s, 10)
		return n
	}
	base := two(256)
	base.Sub(base, two(224)).Add(base, two(192))
	first := new(big.Int).Add(base, two(96))
	return [4]*big.Int{
		first.Sub(first, big.NewInt(1)),
		base.Sub(base, decimal("89188191075325690597107910205041859247")),
		new(big.Int).Sub(two(255), big.NewInt(19)),
		new(big.Int).Add(two(252), decimal("27742317777372353535851937790883648493")),
	}
}

// P3.1
func TestBelowNearEachModulus(t *testing.T) {
	for k, m := range bigModuli() {
		for d := int64(-3); d <= 3; d++ {
			a := toNat(new(big.Int).Add(m, big.NewInt(d)))
			if got := Below(k, a); got != (d < 0) {
				t.Errorf("Below(%d, m + %d) = %v, want %v", k, d, got, d < 0)
			}
		}
		if !Below(k, api.Nat{}) || !Below(k, api.Nat{1}) || Below(k, greatest) {
			t.Errorf("Below(%d) of 0, of 1 or of 2^256 - 1 isn't true, true and false", k)
		}
	}
}

// P3.1
func TestBelowAsHeldByLongNumbers(t *testing.T) {
	list := samples()
	for _, m := range bigModuli() {
		for i := range 4 {
			for _, d := range []uint64{1, ones} {
				// One limb that is greater or less, while the others are the modulus's own.
				a := toNat(m)
				a[i] += d
				list = append(list, a)
			}
		}
	}
	for k, m := range bigModuli() {
		for _, a := range list {
			if got, want := Below(k, a), bigNat(a).Cmp(m) < 0; got != want {
				t.Errorf("Below(%d, %x) = %v, want %v", k, a, got, want)
			}
		}
	}
}

// P3.1
func TestBelowWithoutAModulus(t *testing.T) {
	for _, k := range []int{-1, -2, -3, -4, 4, 5, 7, 8, 256, math.MinInt32, math.MaxInt32, math.MinInt, math.MaxInt} {
		for _, a := range samples() {
			if Below(k, a) {
				t.Errorf("Below(%d, %x) = true, want false", k, a)
			}
		}
	}
}
