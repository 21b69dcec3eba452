package der

import (
	"bytes"
	"encoding/asn1"
	"fmt"
	"math/big"
	"math/rand/v2"
	"slices"
	"testing"

	"chronicle/api"
)

func newRand() *rand.Rand { return rand.New(rand.NewPCG(10, 29)) }

// power answers 2^n + d as a number of math/big.
func power(n uint, d int64) *big.Int {
	a := new(big.Int).Lsh(big.NewInt(1), n)
	return a.Add(a, big.NewInt(d))
}

// nat answers a, which is from 0 to 2^256 - 1, as a Nat.
func nat(a *big.Int) api.Nat {
	var b [32]byte
	a.FillBytes(b[:])
	var limbs api.Nat
	for i, x := range b {
		limbs[3-i/8] = limbs[3-i/8]<<8 | uint64(x)
	}
	return limbs
}

// whole answers a as a number of math/big.
func whole(a api.Nat) *big.Int {
	all := new(big.Int)
	for i := len(a) - 1; i >= 0; i-- {
		all.Lsh(all, 64)
		all.Add(all, new(big.Int).SetUint64(a[i]))
	}
	return all
}

// someNat answers a number below 2^bits that follows no rule; bits is from 0 to 256.
func someNat(r *rand.Rand, bits int) api.Nat {
	var b [32]byte
	for i := range b {
		b[i] = byte(r.Uint32())
	}
	a := new(big.Int).SetBytes(b[:])
	return nat(a.Rsh(a, uint(256-bits)))
}

// someBytes answers so many bytes that follow no rule.
func someBytes(r *rand.Rand, count int) []byte {
	b := make([]byte, count)
	for i := range b {
		b[i] = byte(r.Uint32())
	}
	return b
}

// edges are the numbers where an INTEGER's bytes become more, or get a 0 ahead, and those beside them.
func edges() []api.Nat {
	all := []api.Nat{{}, {1}, {2}, {48}}
	for bits := uint(7); bits <= 255; bits++ {
		if bits%8 == 7 || bits%8 == 0 {
			all = append(all, nat(power(bits, -1)), nat(power(bits, 0)), nat(power(bits, 1)))
		}
	}
	return append(all, nat(power(256, -2)), nat(power(256, -1)))
}

// plainInteger answers the INTEGER of a, as the chapter's words say.
func plainInteger(a *big.Int) []byte {
	b := a.Bytes()
	if len(b) == 0 {
		b = []byte{0}
	}
	if b[0] >= 128 {
		b = append([]byte{0}, b...)
	}
	return append([]byte{2, byte(len(b))}, b...)
}

// plainEncode answers the bytes of a pair, as the chapter's words say.
func plainEncode(r, s *big.Int) []byte {
	both := append(plainInteger(r), plainInteger(s)...)
	return append([]byte{48, byte(len(both))}, both...)
}

// plainDecode answers the pair whose bytes b is: where a pair's numbers would stand is known by the lengths, and then those bytes are held against the pair's own.
func plainDecode(b []byte) (api.Nat, api.Nat, bool) {
	none := api.Nat{}
	if len(b) < 8 || len(b) > 72 || int(b[3])+6 > len(b) {
		return none, none, false
	}
	second := int(b[3]) + 6
	r, s := new(big.Int).SetBytes(b[4:second-2]), new(big.Int).SetBytes(b[second:])
	if r.BitLen() > 256 || s.BitLen() > 256 || !bytes.Equal(b, plainEncode(r, s)) {
		return none, none, false
	}
	return nat(r), nat(s), true
}

// same fails, unless Decode answers of b what the chapter's words say; it answers whether b is a pair's bytes.
func same(t *testing.T, b []byte) bool {
	t.Helper()
	r, s, ok := Decode(b)
	wantR, wantS, want := plainDecode(b)
	if r != wantR || s != wantS || ok != want {
		t.Fatalf("Decode(%v): %x %x %v, not %x %x %v", b, r, s, ok, wantR, wantS, want)
	}
	return ok
}

// decoded fails, unless b is the bytes of that pair.
func decoded(t *testing.T, b []byte, r, s api.Nat) {
	t.Helper()
	if gotR, gotS, ok := Decode(b); gotR != r || gotS != s || !ok {
		t.Errorf("Decode(%v): %x %x %v, not %x %x true", b, gotR, gotS, ok, r, s)
	}
}

// refused fails, unless b is no pair's bytes.
func refused(t *testing.T, name string, b []byte) {
	t.Helper()
	if r, s, ok := Decode(b); r != (api.Nat{}) || s != (api.Nat{}) || ok {
		t.Errorf("%s: Decode(%v): %x %x %v, not zeros and false", name, b, r, s, ok)
	}
}

// join answers those bytes, one behind the other.
func join(parts ...[]byte) []byte {
	return slices.Concat(parts...)
}

// repeat answers so many bytes x.
func repeat(x byte, count int) []byte {
	return bytes.Repeat([]byte{x}, count)
}

// wrapped answers 48, how many bytes the parts are, and the parts.
func wrapped(parts ...[]byte) []byte {
	both := join(parts...)
	return join([]byte{48, byte(len(both))}, both)
}

// asInteger answers 2, how many bytes b is, and b.
func asInteger(b []byte) []byte {
	return join([]byte{2, byte(len(b))}, b)
}

// P10.1: pairs whose bytes are written out: the chapter's example, and numbers at the edges on either side.
func TestKnown(t *testing.T) {
	known := []struct {
		name string
		r, s api.Nat
		want []byte
	}{
		{"the chapter's example", api.Nat{1}, api.Nat{128}, []byte{48, 7, 2, 1, 1, 2, 2, 0, 128}},
		{"turned about", api.Nat{128}, api.Nat{1}, []byte{48, 7, 2, 2, 0, 128, 2, 1, 1}},
		{"0 and 0", api.Nat{}, api.Nat{}, []byte{48, 6, 2, 1, 0, 2, 1, 0}},
		{"0 and 1", api.Nat{}, api.Nat{1}, []byte{48, 6, 2, 1, 0, 2, 1, 1}},
		{"127 and 128", api.Nat{127}, api.Nat{128}, []byte{48, 7, 2, 1, 127, 2, 2, 0, 128}},
		{"255 and 256", api.Nat{255}, api.Nat{256}, []byte{48, 8, 2, 2, 0, 255, 2, 2, 1, 0}},
		{"2^15 - 1 and 2^15", api.Nat{1<<15 - 1}, api.Nat{1 << 15}, []byte{48, 9, 2, 2, 127, 255, 2, 3, 0, 128, 0}},
		{"2^64 and 2^63", api.Nat{0, 1}, api.Nat{1 << 63}, []byte{48, 22, 2, 9, 1, 0, 0, 0, 0, 0, 0, 0, 0, 2, 9, 0, 128, 0, 0, 0, 0, 0, 0, 0}},
		{"2^255 - 1 and 0", nat(power(255, -1)), api.Nat{}, join([]byte{48, 37, 2, 32, 127}, repeat(255, 31), []byte{2, 1, 0})},
		{"0 and 2^255 - 1", api.Nat{}, nat(power(255, -1)), join([]byte{48, 37, 2, 1, 0, 2, 32, 127}, repeat(255, 31))},
		{"2^255 and 2^255", nat(power(255, 0)), nat(power(255, 0)), join([]byte{48, 70, 2, 33, 0, 128}, repeat(0, 31), []byte{2, 33, 0, 128}, repeat(0, 31))},
		{"2^256 - 1 twice", nat(power(256, -1)), nat(power(256, -1)), join([]byte{48, 70, 2, 33, 0}, repeat(255, 32), []byte{2, 33, 0}, repeat(255, 32))},
	}
	for _, k := range known {
		if got := Encode(k.r, k.s); !bytes.Equal(got, k.want) {
			t.Errorf("%s: %v, not %v", k.name, got, k.want)
		}
		decoded(t, k.want, k.r, k.s)
	}
}

// P10.1, P10.2: each edge beside each edge is encoded as the chapter's words say, and decoded again.
func TestEdges(t *testing.T) {
	for _, r := range edges() {
		for _, s := range edges() {
			b := Encode(r, s)
			if want := plainEncode(whole(r), whole(s)); !bytes.Equal(b, want) {
				t.Fatalf("Encode(%x, %x): %v, not %v", r, s, b, want)
			}
			decoded(t, b, r, s)
		}
	}
}

// P10.1, P10.2: so are numbers of each count of bits that follow no rule.
func TestSome(t *testing.T) {
	r := newRand()
	for range 20 {
		for bits := range 257 {
			a, b := someNat(r, bits), someNat(r, r.IntN(257))
			text := Encode(a, b)
			if want := plainEncode(whole(a), whole(b)); !bytes.Equal(text, want) {
				t.Fatalf("Encode(%x, %x): %v, not %v", a, b, text, want)
			}
			decoded(t, text, a, b)
			decoded(t, Encode(b, a), b, a)
		}
	}
}

// P10.1: the shortest pairs have 8 bytes, the longest 72, and a number's first byte is never 128 or more.
func TestLengths(t *testing.T) {
	for r := range uint64(128) {
		for s := range uint64(128) {
			if b := Encode(api.Nat{r}, api.Nat{s}); len(b) != 8 {
				t.Fatal(r, s, b)
			}
		}
	}
	for bits := range 257 {
		a := new(big.Int).Sub(power(uint(bits), 0), big.NewInt(1))
		b := Encode(nat(a), nat(power(256, -1)))
		if count := bits/8 + 1; int(b[3]) != count || len(b) != 39+count || int(b[1]) != len(b)-2 || b[4] >= 128 {
			t.Error(bits, b)
		}
	}
}

// P10.1: the standard library encodes and decodes pairs so too.
func TestStandard(t *testing.T) {
	type pairOf struct{ R, S *big.Int }
	r := newRand()
	for i := range 3000 {
		a, b := someNat(r, i%257), someNat(r, r.IntN(257))
		want, err := asn1.Marshal(pairOf{whole(a), whole(b)})
		if err != nil {
			t.Fatal(err)
		}
		if got := Encode(a, b); !bytes.Equal(got, want) {
			t.Fatalf("Encode(%x, %x): %v, not %v", a, b, got, want)
		}
		var back pairOf
		if rest, err := asn1.Unmarshal(Encode(a, b), &back); err != nil || len(rest) != 0 || nat(back.R) != a || nat(back.S) != b {
			t.Fatal(a, b, back, rest, err)
		}
	}
}

// P10.1, R1, R3: what is no pair's bytes, by the rule that it breaks.
func TestRefused(t *testing.T) {
	one, big128 := []byte{2, 1, 1}, []byte{2, 2, 0, 128}
	bad := []struct {
		name string
		b    []byte
	}{
		{"nil", nil},
		{"no bytes", []byte{}},
		{"one byte 48", []byte{48}},
		{"one byte 0", []byte{0}},
		{"no numbers", []byte{48, 0}},
		{"one number", wrapped(one)},
		{"one number and a mark", wrapped(one, []byte{2})},
		{"one number and a mark with a length", wrapped(one, []byte{2, 1})},
		{"three numbers", wrapped(one, big128, one)},
		{"a byte behind", join(wrapped(one, big128), []byte{0})},
		{"a byte behind that is counted", wrapped(one, big128, []byte{0})},
		{"a pair behind", join(wrapped(one, big128), wrapped(one, big128))},
		{"a byte ahead", join([]byte{0}, wrapped(one, big128))},
		{"a pair within a pair", wrapped(wrapped(one, big128))},
		{"another first byte", []byte{49, 7, 2, 1, 1, 2, 2, 0, 128}},
		{"a first byte 16", []byte{16, 7, 2, 1, 1, 2, 2, 0, 128}},
		{"another mark of the first number", []byte{48, 7, 3, 1, 1, 2, 2, 0, 128}},
		{"another mark of the second number", []byte{48, 7, 2, 1, 1, 130, 2, 0, 128}},
		{"the pair's length is one more", []byte{48, 8, 2, 1, 1, 2, 2, 0, 128}},
		{"the pair's length is one less", []byte{48, 6, 2, 1, 1, 2, 2, 0, 128}},
		{"the pair's length is 0", []byte{48, 0, 2, 1, 1, 2, 2, 0, 128}},
		{"the pair's length is one less, without a byte 0", []byte{48, 6, 2, 1, 1, 2, 1, 128}},
		{"the first number's length is 0", []byte{48, 7, 2, 0, 1, 2, 2, 0, 128}},
		{"the first number's length is one more", []byte{48, 7, 2, 2, 1, 2, 2, 0, 128}},
		{"the second number's length is one more", []byte{48, 7, 2, 1, 1, 2, 3, 0, 128}},
		{"the second number's length is one less", []byte{48, 7, 2, 1, 1, 2, 1, 0, 128}},
		{"the first number has no bytes", wrapped(asInteger(nil), big128)},
		{"the second number has no bytes", wrapped(big128, asInteger(nil))},
		{"both numbers have no bytes", wrapped(asInteger(nil), asInteger(nil))},
		{"a needless 0 ahead of the first", wrapped(asInteger([]byte{0, 1}), big128)},
		{"a needless 0 ahead of the second", wrapped(one, asInteger([]byte{0, 127}))},
		{"a needless 0 ahead of 0", wrapped(asInteger([]byte{0, 0}), one)},
		{"two 0 ahead of 128", wrapped(one, asInteger([]byte{0, 0, 128}))},
		{"no 0 ahead of the first", wrapped(asInteger([]byte{128}), one)},
		{"no 0 ahead of the second", wrapped(one, asInteger([]byte{255}))},
		{"no 0 ahead of 2^256 - 1", wrapped(one, asInteger(repeat(255, 32)))},
		{"no 0 ahead of 2^255", wrapped(asInteger(join([]byte{128}, repeat(0, 31))), one)},
		{"33 bytes, the first 1", wrapped(asInteger(join([]byte{1}, repeat(0, 32))), one)},
		{"33 bytes, the first 1, the next 128", wrapped(one, asInteger(join([]byte{1, 128}, repeat(0, 31))))},
		{"33 bytes, the first 128", wrapped(one, asInteger(join([]byte{128}, repeat(255, 32))))},
		{"33 bytes 0", wrapped(one, asInteger(repeat(0, 33)))},
		{"33 bytes, a needless 0", wrapped(one, asInteger(join([]byte{0, 127}, repeat(255, 31))))},
		{"34 bytes, the first two 0", wrapped(one, asInteger(join([]byte{0, 0}, repeat(255, 32))))},
		{"34 bytes, the first 1", wrapped(asInteger(join([]byte{1, 0}, repeat(255, 32))), one)},
		{"34 bytes, the first 0, the next 128", wrapped(asInteger(join([]byte{0, 128}, repeat(255, 32))), one)},
		{"a length of two bytes for the pair", []byte{48, 129, 7, 2, 1, 1, 2, 2, 0, 128}},
		{"a length of two bytes for the pair, counted from there", []byte{48, 129, 8, 2, 1, 1, 2, 2, 0, 128}},
		{"a length of three bytes for the pair", []byte{48, 130, 0, 7, 2, 1, 1, 2, 2, 0, 128}},
		{"a length of no end for the pair", []byte{48, 128, 2, 1, 1, 2, 2, 0, 128, 0, 0}},
		{"a length of two bytes for a number", wrapped([]byte{2, 129, 1, 1}, big128)},
		{"a length of two bytes for the other number", wrapped(one, []byte{2, 129, 2, 0, 128})},
		{"a pair's length of 255", []byte{48, 255, 2, 1, 1, 2, 2, 0, 128}},
		{"a number's length of 255", []byte{48, 7, 2, 255, 1, 2, 2, 0, 128}},
		{"the other number's length of 127", []byte{48, 7, 2, 1, 1, 2, 127, 0, 128}},
	}
	for _, x := range bad {
		refused(t, x.name, x.b)
		if _, _, ok := plainDecode(x.b); ok {
			t.Errorf("%s: the test's own words take it", x.name)
		}
	}
}

// P10.1, R1, R3: numbers of more than 33 bytes, with lengths that are right, up to those that reach beyond 255.
func TestLongNumbers(t *testing.T) {
	one := []byte{2, 1, 1}
	for count := 34; count <= 300; count++ {
		for _, first := range []byte{0, 1, 127, 128, 255} {
			long := join([]byte{first}, repeat(200, count-1))
			noughts := join(repeat(0, count-32), repeat(200, 32))
			for _, x := range [][]byte{long, noughts} {
				refused(t, fmt.Sprint("first of ", count), wrapped(asInteger(x), one))
				refused(t, fmt.Sprint("second of ", count), wrapped(one, asInteger(x)))
				refused(t, fmt.Sprint("both of ", count), wrapped(asInteger(x), asInteger(x)))
			}
		}
	}
}

// P10.1, R1: bytes whose count is a pair's one, and 256 more: a length counts no more than its byte says.
func TestLengthsWrapRound(t *testing.T) {
	for _, r := range []api.Nat{{}, {1}, nat(power(255, 0))} {
		good := Encode(r, api.Nat{128})
		for _, more := range []int{256, 512, 1 << 16} {
			for _, x := range []byte{0, 2, 48, 255} {
				refused(t, fmt.Sprint(more, " more behind"), join(good, repeat(x, more)))
				refused(t, fmt.Sprint(more, " more ahead"), join(repeat(x, more), good))
			}
		}
	}
	tail := repeat(7, 255)
	for first := range 256 {
		refused(t, fmt.Sprint("a pair's length ", first), join([]byte{48, byte(first), 2, 1, 1}, tail))
		refused(t, fmt.Sprint("a number's length ", first), wrapped([]byte{2, byte(first)}, tail))
	}
}

// somePairs are pairs' bytes of several kinds.
func somePairs(r *rand.Rand) [][]byte {
	most := nat(power(256, -1))
	return [][]byte{
		Encode(api.Nat{}, api.Nat{}),
		Encode(api.Nat{1}, api.Nat{128}),
		Encode(api.Nat{128}, api.Nat{1}),
		Encode(api.Nat{0x0202}, api.Nat{0x02010201}),
		Encode(api.Nat{2}, api.Nat{48}),
		Encode(most, api.Nat{}),
		Encode(api.Nat{}, most),
		Encode(most, most),
		Encode(nat(power(255, -1)), nat(power(255, 0))),
		Encode(someNat(r, 256), someNat(r, 256)),
		Encode(someNat(r, 120), someNat(r, 250)),
	}
}

// P10.1, R1, R3: each byte of a pair's bytes, made each other one; some such are another pair's bytes.
func TestEachByteChanged(t *testing.T) {
	taken := 0
	for _, good := range somePairs(newRand()) {
		for place := range good {
			for x := range 256 {
				b := slices.Clone(good)
				b[place] = byte(x)
				if same(t, b) {
					taken++
				}
			}
		}
	}
	if taken < 10000 {
		t.Error(taken)
	}
}

// P10.1, R1, R3: a pair's bytes without some at the end, at the beginning, or between, or with some more.
func TestCutAndGrown(t *testing.T) {
	r := newRand()
	for _, good := range somePairs(r) {
		for place := range good {
			refused(t, "cut", good[:place])
			if place > 0 {
				refused(t, "cut ahead", good[place:])
			}
			same(t, slices.Delete(slices.Clone(good), place, place+1))
			for x := range 256 {
				same(t, slices.Insert(slices.Clone(good), place, byte(x)))
			}
		}
		for count := 1; count <= 300; count++ {
			refused(t, "some more behind", join(good, someBytes(r, count)))
			refused(t, "noughts behind", join(good, repeat(0, count)))
		}
	}
}

// P10.1, R1, R3: a pair's bytes with a byte more or less, where the pair's and the numbers' lengths are made to fit, or not.
func TestLengthsMadeToFit(t *testing.T) {
	for _, good := range somePairs(newRand()) {
		for place := 2; place < len(good); place++ {
			for _, x := range []byte{0, 1, 2, 127, 128, 255} {
				b := slices.Insert(slices.Clone(good), place, x)
				b[1] = byte(len(b) - 2)
				second := int(good[3]) + 5
				for _, length := range []int{3, second, second + 1} {
					c := slices.Clone(b)
					c[length]++
					same(t, c)
				}
				same(t, b)
			}
		}
	}
}

// P10.1, P10.2: all bytes that are made of a few, with the pair's length as it should be: those that are taken are what Encode makes of them.
func TestAllShort(t *testing.T) {
	few := []byte{0, 1, 2, 3, 128}
	taken := 0
	for count := 0; count <= 8; count++ {
		all := 1
		for range count {
			all *= len(few)
		}
		for i := range all {
			b := make([]byte, 2, 2+count)
			b[0], b[1] = 48, byte(count)
			for range count {
				b = append(b, few[i%len(few)])
				i /= len(few)
			}
			if same(t, b) {
				taken++
				r, s, _ := Decode(b)
				if again := Encode(r, s); !bytes.Equal(again, b) {
					t.Fatal(b, again)
				}
			}
		}
	}
	if taken < 100 {
		t.Error(taken)
	}
}

// P10.1, R1: all bytes of which there are at most two.
func TestAllOfTwo(t *testing.T) {
	for first := range 256 {
		refused(t, "one byte", []byte{byte(first)})
		for second := range 256 {
			refused(t, "two bytes", []byte{byte(first), byte(second)})
		}
	}
}

// P10.1, R1: bytes that follow no rule, short and long, and such behind a pair's beginning.
func TestNoRule(t *testing.T) {
	r := newRand()
	for count := range 400 {
		for range 10 {
			b := someBytes(r, count)
			same(t, b)
			same(t, wrapped(b))
			same(t, wrapped([]byte{2, byte(r.IntN(40))}, b))
			same(t, wrapped(asInteger(b), asInteger(someBytes(r, r.IntN(40)))))
		}
	}
	for _, count := range []int{1 << 12, 1<<16 + 6, 1 << 20} {
		b := someBytes(r, count)
		refused(t, "long", b)
		b[0] = 48
		refused(t, "long with a mark", b)
		refused(t, "long noughts", make([]byte, count))
	}
}

// P10.2: what is decoded of bytes with numbers of no rule, encoded again, is that.
func TestDecodedEncoded(t *testing.T) {
	r := newRand()
	taken := 0
	for range 20000 {
		b := wrapped(asInteger(someBytes(r, 1+r.IntN(33))), asInteger(someBytes(r, 1+r.IntN(33))))
		if !same(t, b) {
			continue
		}
		taken++
		first, second, _ := Decode(b)
		if again := Encode(first, second); !bytes.Equal(again, b) {
			t.Fatal(b, again)
		}
	}
	if taken < 1000 {
		t.Error(taken)
	}
}

// R5: bytes that are handed in stay as they are, their spare room too; it isn't read as if it were handed in.
func TestLeftAsItIs(t *testing.T) {
	good := Encode(api.Nat{1 << 63}, api.Nat{5, 6, 7, 8})
	wrong := slices.Clone(good)
	wrong[len(wrong)-1], wrong[3] = 0, 200
	for _, b := range [][]byte{good, wrong, {}, {48}} {
		room := join(b, repeat(9, 80))
		kept := slices.Clone(room)
		Decode(room[:len(b)])
		if !bytes.Equal(room, kept) {
			t.Error(room, kept)
		}
	}
	for count := range good {
		refused(t, "the rest in the spare room", good[:count])
	}
	decoded(t, join(good, repeat(9, 80))[:len(good)], api.Nat{1 << 63}, api.Nat{5, 6, 7, 8})
}

// P2, R5, R7: the same calls have the same answers, in whatever order, and an answer is nobody else's memory.
func TestAgain(t *testing.T) {
	r, s := api.Nat{1, 2, 3, 1 << 63}, api.Nat{200}
	first := Encode(r, s)
	kept := slices.Clone(first)
	second := Encode(r, s)
	room := first[:cap(first)]
	for i := range room {
		room[i] = 1
	}
	if third := Encode(r, s); !bytes.Equal(second, kept) || !bytes.Equal(third, kept) {
		t.Error(second, third, kept)
	}
	for range 3 {
		decoded(t, kept, r, s)
		refused(t, "between", first)
	}
}
