package sha512

import (
	"bytes"
	"crypto/sha512"
	"encoding/hex"
	"fmt"
	"math/big"
	"math/rand/v2"
	"slices"
	"strings"
	"testing"
)

// edges are the lengths at which a message, with what stands behind it, just fits into its blocks, or just doesn't.
var edges = []int{
	0, 1, 55, 56, 63, 64, 65, 110, 111, 112, 113, 119, 120, 126, 127, 128, 129, 130,
	238, 239, 240, 241, 247, 248, 254, 255, 256, 257, 367, 368, 383, 384, 385,
}

// ofNothing is the hash of no bytes, in hexadecimal digits.
const ofNothing = "cf83e1357eefb8bdf1542850d66d8007d620e4050b5715dc83f4a921d36ce9ce" +
	"47d0d13c5d85f2b0ff8318d2877eec2f63b931bd47417a81a538327af927da3e"

func newRand() *rand.Rand { return rand.New(rand.NewPCG(6, 17)) }

// some answers n bytes that follow no rule.
func some(r *rand.Rand, n int) []byte {
	b := make([]byte, n)
	for i := range b {
		b[i] = byte(r.Uint32())
	}
	return b
}

// messages are such of each length to over four blocks, of many blocks, and some whose bytes are all the same.
func messages() [][]byte {
	r := newRand()
	var list [][]byte
	for n := range 600 {
		list = append(list, some(r, n))
	}
	for _, n := range edges {
		for _, x := range []byte{0, 'a', 128, 255} {
			list = append(list, bytes.Repeat([]byte{x}, n))
		}
	}
	for _, n := range []int{1000, 4095, 4096, 8191, 8192, 65535, 65536, 100003} {
		list = append(list, some(r, n))
	}
	return list
}

// standard answers the hash that the standard library makes.
func standard(b []byte) [64]byte { return sha512.Sum512(b) }

// same holds a hash to the one that is wanted.
func same(t *testing.T, what string, got, want [64]byte) {
	t.Helper()
	if got != want {
		t.Errorf("%s: the hash is %x, want %x", what, got, want)
	}
}

// fromHex answers the hash of those hexadecimal digits.
func fromHex(t *testing.T, digits string) [64]byte {
	t.Helper()
	b, err := hex.DecodeString(digits)
	if err != nil || len(b) != 64 {
		t.Fatalf("%q is no hash", digits)
	}
	return [64]byte(b)
}

// P6.1: the chapter's example, and hashes that are known from elsewhere.
func TestKnownHashes(t *testing.T) {
	for _, c := range []struct{ message, digits string }{
		{"", ofNothing},
		{"abc", "ddaf35a193617abacc417349ae20413112e6fa4e89a97ea20a9eeee64b55d39a" +
			"2192992a274fc1a836ba3c23a3feebbd454d4423643ce80e2a9ac94fa54ca49f"},
		{"abcdbcdecdefdefgefghfghighijhijkijkljklmklmnlmnomnopnopq", "204a8fc6dda82f0a0ced7beb8e08a41657c16ef468b228a8279be331a703c335" +
			"96fd15c13b1b07f9aa1d3bea57789ca031ad85c7a71dd70354ec631238ca3445"},
		{"abcdefghbcdefghicdefghijdefghijkefghijklfghijklmghijklmnhijklmnoijklmnopjklmnopqklmnopqrlmnopqrsmnopqrstnopqrstu", "8e959b75dae313da8cf4f72814fc143f8f7779c6eb9f7fa17299aeadb6889018" +
			"501d289e4900f7e4331b99dec4b5433ac7d329eeb6dd26545e96e55b874be909"},
		{strings.Repeat("a", 1000000), "e718483d0ce769644e2e42c7bc15b4638e1f98b13b2044285632a803afa973eb" +
			"de0ff244877ea60a4cb0432ce577c31beb009c5c2c49aa2e4eadb217ad8cc09b"},
	} {
		same(t, fmt.Sprintf("%d bytes", len(c.message)), Sum([]byte(c.message)), fromHex(t, c.digits))
	}
	h := Sum([]byte("abc"))
	if [4]byte(h[:4]) != [4]byte{221, 175, 53, 161} {
		t.Errorf("the hash of abc begins with %d", h[:4])
	}
}

// P6.1: messages of all lengths to over four blocks, and of many blocks.
func TestHashesAsTheStandardMakesThem(t *testing.T) {
	for _, m := range messages() {
		same(t, fmt.Sprintf("%d bytes", len(m)), Sum(m), standard(m))
	}
}

// P6.1: each bit of a message, at the edges of its blocks, changes its hash as it should.
func TestEachBit(t *testing.T) {
	for _, n := range []int{1, 111, 112, 127, 128, 129, 239, 240, 255, 256} {
		for bit := range n * 8 {
			m := make([]byte, n)
			m[bit/8] = 1 << (bit % 8)
			same(t, fmt.Sprintf("%d bytes with the bit %d", n, bit), Sum(m), standard(m))
		}
	}
}

// P6.1: a message of 2^29 bytes and more has more bits than 32 of a word's can tell.
func TestManyBits(t *testing.T) {
	part := some(newRand(), 1<<20)
	parts := slices.Repeat([][]byte{part}, 1<<9)
	parts = append(parts, part[:7])
	want := sha512.New()
	for _, p := range parts {
		want.Write(p)
	}
	same(t, "2^29 + 7 bytes", Sum(parts...), [64]byte(want.Sum(nil)))
}

// P6.1: what stands behind a message, as few noughts as may be, and its size in bits.
func TestEnding(t *testing.T) {
	for n := range uint64(600) {
		got := ending(n)
		if (n+uint64(len(got)))%128 != 0 || len(got) < 17 || len(got) > 144 {
			t.Errorf("%d bytes stand behind %d", len(got), n)
		}
		noughts := got[1 : len(got)-16]
		if got[0] != 128 || bytes.Count(noughts, []byte{0}) != len(noughts) {
			t.Errorf("behind %d bytes stands %v", n, got)
		}
		isSize(t, n, got[len(got)-16:])
	}
	for _, n := range []uint64{1<<29 - 1, 1 << 29, 1<<31 - 1, 1<<61 - 1, 1 << 61, 1<<64 - 1} {
		got := ending(n)
		isSize(t, n, got[len(got)-16:])
	}
}

// isSize holds sixteen bytes to eight times n.
func isSize(t *testing.T, n uint64, got []byte) {
	t.Helper()
	want := new(big.Int).Lsh(new(big.Int).SetUint64(n), 3)
	if size := new(big.Int).SetBytes(got); size.Cmp(want) != 0 {
		t.Errorf("behind %d bytes stands the size %d", n, size)
	}
}

// primes answers the first n primes.
func primes(n int) []int64 {
	var list []int64
	for p := int64(2); len(list) < n; p++ {
		if !slices.ContainsFunc(list, func(q int64) bool { return p%q == 0 }) {
			list = append(list, p)
		}
	}
	return list
}

// isRoot answers whether x is the first 64 bits of the fraction of a root of n, of the square or the cube.
func isRoot(x uint64, n, power int64) bool {
	scaled := new(big.Int).Lsh(big.NewInt(n), uint(64*power))
	for whole := int64(1); whole <= n; whole++ {
		root := new(big.Int).Lsh(big.NewInt(whole), 64)
		root.Add(root, new(big.Int).SetUint64(x))
		next := new(big.Int).Add(root, big.NewInt(1))
		root.Exp(root, big.NewInt(power), nil)
		next.Exp(next, big.NewInt(power), nil)
		if root.Cmp(scaled) <= 0 && scaled.Cmp(next) < 0 {
			return true
		}
	}
	return false
}

// P6.1: the constants and the first state are the roots' fractions that the chapter names.
func TestConstants(t *testing.T) {
	list := primes(80)
	if len(constants) != 80 || len(first) != 8 {
		t.Fatalf("there are %d constants and %d words of the state", len(constants), len(first))
	}
	for i, x := range constants {
		if !isRoot(x, list[i], 3) {
			t.Errorf("K%d is %016x, which isn't of the cube root of %d", i, x, list[i])
		}
	}
	for i, x := range first {
		if !isRoot(x, list[i], 2) {
			t.Errorf("H%d is %016x, which isn't of the square root of %d", i, x, list[i])
		}
	}
}

// P6.1: choice and majority, of each bit, at all that three bits can be.
func TestChoiceAndMajority(t *testing.T) {
	const x, y, z = 0b11110000, 0b11001100, 0b10101010
	if got := choice(x, y, z); got != 0b11001010 {
		t.Errorf("the choice is %08b", got)
	}
	if got := majority(x, y, z); got != 0b11101000 {
		t.Errorf("the majority is %08b", got)
	}
	if choice(x<<56, y<<56, z<<56) != 0b11001010<<56 || majority(x<<56, y<<56, z<<56) != 0b11101000<<56 {
		t.Error("the highest bits are taken otherwise than the lowest")
	}
}

// P6.1: a word turned right, its lowest bits come to stand at its top.
func TestRight(t *testing.T) {
	r := newRand()
	for n := range 64 {
		x := r.Uint64()
		if got, want := right(x, n), x>>n|x<<(64-n); got != want {
			t.Errorf("%016x turned right by %d is %016x, want %016x", x, n, got, want)
		}
	}
}

// R7: neither the first state nor the constants change with what is hashed.
func TestTablesStay(t *testing.T) {
	was, table := first, constants
	s := first
	one := s.takeIn(block{1, 2, 3})
	Sum(some(newRand(), 1000))
	if s != was || first != was || constants != table || one == was {
		t.Error("a state, or the constants, changed with a block")
	}
	if s.takeIn(block{1, 2, 3}) != one {
		t.Error("the same block behind the same state has another one")
	}
}

// P6.1, R1, R5: no parts, and parts without bytes, are no bytes.
func TestNothing(t *testing.T) {
	want := fromHex(t, ofNothing)
	same(t, "no parts", Sum(), want)
	for what, parts := range map[string][][]byte{
		"a nil list":       nil,
		"an empty list":    {},
		"a nil part":       {nil},
		"an empty part":    {{}},
		"a part cut short": {[]byte("abc")[:0]},
		"several":          {nil, {}, nil, {}, []byte("x")[1:]},
	} {
		same(t, what, Sum(parts...), want)
	}
}

// P6.1: bytes that look like an ending are bytes as others are.
func TestMessageWithAnEnding(t *testing.T) {
	for _, n := range edges {
		m := some(newRand(), n)
		whole := append(bytes.Clone(m), ending(uint64(n))...)
		same(t, fmt.Sprintf("%d bytes and their ending", n), Sum(m, ending(uint64(n))), standard(whole))
		if Sum(whole) == Sum(m) || Sum(append(bytes.Clone(m), 0)) == Sum(m) || Sum(append(bytes.Clone(m), 128)) == Sum(m) {
			t.Errorf("%d bytes have the hash of more", n)
		}
	}
}

// P6.1: parts stand in their order, and one may stand there twice.
func TestOrderOfParts(t *testing.T) {
	a, b := []byte("a"), []byte("bc")
	same(t, "a, bc", Sum(a, b), standard([]byte("abc")))
	same(t, "bc, a", Sum(b, a), standard([]byte("bca")))
	same(t, "a, bc, a, a", Sum(a, b, a, a), standard([]byte("abcaa")))
	m := some(newRand(), 200)
	same(t, "one part three times", Sum(m, m, m), standard(bytes.Repeat(m, 3)))
	same(t, "parts that overlap", Sum(m[:140], m[60:]), standard(append(bytes.Clone(m[:140]), m[60:]...)))
}

// P6.2: a message cut in every way into two parts, with nothing between them or empty parts.
func TestTwoParts(t *testing.T) {
	for _, n := range edges {
		m := some(newRand(), n)
		want := standard(m)
		for cut := range n + 1 {
			what := fmt.Sprintf("%d bytes cut at %d", n, cut)
			same(t, what, Sum(m[:cut], m[cut:]), want)
			same(t, what+", with empty parts", Sum(nil, m[:cut], []byte{}, nil, m[cut:], []byte{}), want)
		}
	}
}

// P6.2: a message cut in every way into three parts.
func TestThreeParts(t *testing.T) {
	m := some(newRand(), 261)
	want := standard(m)
	for one := range len(m) + 1 {
		for two := one; two <= len(m); two++ {
			if got := Sum(m[:one], m[one:two], m[two:]); got != want {
				t.Fatalf("cut at %d and %d: %x, want %x", one, two, got, want)
			}
		}
	}
}

// P6.2: parts of one length each, single bytes and whole blocks among them.
func TestPartsOfOneLength(t *testing.T) {
	m := some(newRand(), 1500)
	want := standard(m)
	for n := 1; n <= 400; n++ {
		same(t, fmt.Sprintf("parts of %d bytes", n), Sum(slices.Collect(slices.Chunk(m, n))...), want)
	}
}

// P6.2: single bytes, at each length about a block's end.
func TestSingleBytes(t *testing.T) {
	for _, n := range edges {
		m := some(newRand(), n)
		same(t, fmt.Sprintf("%d single bytes", n), Sum(slices.Collect(slices.Chunk(m, 1))...), standard(m))
	}
}

// P6.2: many parts of any lengths, with empty and nil ones among them.
func TestManyParts(t *testing.T) {
	r := newRand()
	for range 500 {
		m := some(r, r.IntN(3000))
		parts := cutUp(r, m)
		same(t, fmt.Sprintf("%d bytes in %d parts", len(m), len(parts)), Sum(parts...), standard(m))
	}
}

// cutUp cuts m into parts by chance, of which some have no bytes.
func cutUp(r *rand.Rand, m []byte) [][]byte {
	parts := [][]byte{nil}
	for len(m) > 0 {
		n := r.IntN(min(len(m), 260) + 1)
		parts = append(parts, m[:n])
		m = m[n:]
		if r.IntN(3) == 0 {
			parts = append(parts, nil, []byte{})
		}
	}
	return parts
}

// R5: bytes that are handed in stay as they are, and so do their spare room and the list of the parts.
func TestBytesHandedInStay(t *testing.T) {
	for _, n := range edges {
		room := some(newRand(), n+300)
		was := bytes.Clone(room)
		half := n / 2
		list := [][]byte{room[:half], nil, room[half:n], room[:0], room[n:]}
		same(t, fmt.Sprintf("%d bytes with room behind them", n), Sum(list[:3]...), standard(was[:n]))
		if !bytes.Equal(room, was) {
			t.Errorf("%d bytes that were handed in, or those behind them, were changed", n)
		}
		for i, size := range []int{half, 0, n - half, 0, 300} {
			if len(list[i]) != size {
				t.Errorf("the list of the parts was changed at %d", i)
			}
		}
	}
}

// R5, R7: bytes may be changed behind a call: its answer stays, and the next one is of what they are then.
func TestBytesChangedBehindACall(t *testing.T) {
	r := newRand()
	for _, n := range edges {
		m := some(r, n)
		was := bytes.Clone(m)
		one := Sum(m)
		copy(m, some(r, n))
		two := Sum(m)
		same(t, fmt.Sprintf("%d bytes ahead of the change", n), one, standard(was))
		same(t, fmt.Sprintf("%d bytes behind it", n), two, standard(m))
	}
}

// R7, P2: of two calls that follow one another neither hangs on the other.
func TestCallsByThemselves(t *testing.T) {
	list := messages()
	for i, m := range list {
		other := list[(i*7+3)%len(list)]
		one := Sum(m)
		between := Sum(other, m)
		same(t, fmt.Sprintf("%d bytes again", len(m)), Sum(m), one)
		same(t, "the call between", between, standard(slices.Concat(other, m)))
		same(t, "nothing behind it", Sum(), fromHex(t, ofNothing))
	}
}

// R7: hashes that are made at one time, each as if it were alone.
func TestHashesAtOneTime(t *testing.T) {
	list := messages()[:300]
	got := make([][64]byte, len(list))
	done := make(chan int)
	for i := range list {
		go func() {
			got[i] = Sum(list[i])
			done <- i
		}()
	}
	for range list {
		<-done
	}
	for i, m := range list {
		same(t, fmt.Sprintf("%d bytes beside others", len(m)), got[i], standard(m))
	}
}

func BenchmarkSum(b *testing.B) {
	m := make([]byte, 1<<16)
	b.SetBytes(int64(len(m)))
	for b.Loop() {
		Sum(m)
	}
}
