package sha256

import (
	"bytes"
	"crypto/sha256"
	"encoding/hex"
	"fmt"
	"math/big"
	"math/rand/v2"
	"slices"
	"strings"
	"testing"

	"chronicle/api"
)

// edges are the lengths at which a message, with what stands behind it, just fits into its blocks, or just doesn't.
var edges = []int{0, 1, 54, 55, 56, 57, 62, 63, 64, 65, 66, 118, 119, 120, 121, 126, 127, 128, 129, 183, 184, 191, 192, 193}

// ofNothing is the hash of no bytes, in hexadecimal digits.
const ofNothing = "e3b0c44298fc1c149afbf4c8996fb92427ae41e4649b934ca495991b7852b855"

func newRand() *rand.Rand { return rand.New(rand.NewPCG(5, 14)) }

// some answers n bytes that follow no rule.
func some(r *rand.Rand, n int) []byte {
	b := make([]byte, n)
	for i := range b {
		b[i] = byte(r.Uint32())
	}
	return b
}

// messages are such of each length to over four blocks, of many blocks, and some whose bytes are all the same.
func messages() [][]byte {
	r := newRand()
	var list [][]byte
	for n := range 300 {
		list = append(list, some(r, n))
	}
	for _, n := range edges {
		for _, x := range []byte{0, 'a', 128, 255} {
			list = append(list, bytes.Repeat([]byte{x}, n))
		}
	}
	for _, n := range []int{1000, 4095, 4096, 8191, 8192, 65535, 65536, 100003} {
		list = append(list, some(r, n))
	}
	return list
}

// standard answers the hash that the standard library makes.
func standard(b []byte) api.Hash { return sha256.Sum256(b) }

// written answers a Digest into which the parts were written.
func written(parts ...[]byte) *Digest {
	d := new(Digest)
	for _, part := range parts {
		d.Write(part)
	}
	return d
}

// same holds a hash to the one that is wanted.
func same(t *testing.T, what string, got, want api.Hash) {
	t.Helper()
	if got != want {
		t.Errorf("%s: the hash is %x, want %x", what, got, want)
	}
}

// fromHex answers the hash of those hexadecimal digits.
func fromHex(t *testing.T, digits string) api.Hash {
	t.Helper()
	b, err := hex.DecodeString(digits)
	if err != nil || len(b) != len(api.Hash{}) {
		t.Fatalf("%q is no hash", digits)
	}
	return api.Hash(b)
}

// P5.1: the chapter's example, and hashes that are known from elsewhere.
func TestKnownHashes(t *testing.T) {
	for _, c := range []struct{ message, digits string }{
		{"", ofNothing},
		{"abc", "ba7816bf8f01cfea414140de5dae2223b00361a396177a9cb410ff61f20015ad"},
		{"abcdbcdecdefdefgefghfghighijhijkijkljklmklmnlmnomnopnopq", "248d6a61d20638b8e5c026930c3e6039a33ce45964ff2167f6ecedd419db06c1"},
		{"abcdefghbcdefghicdefghijdefghijkefghijklfghijklmghijklmnhijklmnoijklmnopjklmnopqklmnopqrlmnopqrsmnopqrstnopqrstu", "cf5b16a778af8380036ce59e7b0492370b249b11e8f07a51afac45037afee9d1"},
		{strings.Repeat("a", 1000000), "cdc76e5c9914fb9281a1c7e284d73e67f1809a48a497200e046d39ccc7112cd0"},
	} {
		what := fmt.Sprintf("%d bytes", len(c.message))
		want := fromHex(t, c.digits)
		same(t, what, Sum([]byte(c.message)), want)
		same(t, what+" written", written([]byte(c.message)).Sum(), want)
	}
	h := Sum([]byte("abc"))
	if [4]byte(h[:4]) != [4]byte{186, 120, 22, 191} {
		t.Errorf("the hash of abc begins with %d", h[:4])
	}
}

// P5.1: messages of all lengths to over four blocks, and of many blocks.
func TestHashesAsTheStandardMakesThem(t *testing.T) {
	for _, m := range messages() {
		what := fmt.Sprintf("%d bytes", len(m))
		same(t, what, Sum(m), standard(m))
		same(t, what+" written", written(m).Sum(), standard(m))
	}
}

// P5.1: each bit of a message, at the edges of its blocks, changes its hash as it should.
func TestEachBit(t *testing.T) {
	for _, n := range []int{1, 55, 56, 63, 64, 65, 119, 120, 127, 128} {
		for bit := range n * 8 {
			m := make([]byte, n)
			m[bit/8] = 1 << (bit % 8)
			same(t, fmt.Sprintf("%d bytes with the bit %d", n, bit), Sum(m), standard(m))
		}
	}
}

// P5.1: a message of 2^29 bytes has 2^32 bits.
func TestSizeAboveAWord(t *testing.T) {
	d, want := new(Digest), sha256.New()
	part := some(newRand(), 1<<20)
	for range 1 << 9 {
		d.Write(part)
		want.Write(part)
	}
	same(t, "2^29 bytes", d.Sum(), api.Hash(want.Sum(nil)))
	d.Write(part[:7])
	want.Write(part[:7])
	same(t, "2^29 + 7 bytes", d.Sum(), api.Hash(want.Sum(nil)))
}

// P5.1: what stands behind a message, as few noughts as may be, and its size in bits.
func TestEnding(t *testing.T) {
	for n := range uint64(300) {
		got := ending(n)
		if (n+uint64(len(got)))%64 != 0 || len(got) < 9 || len(got) > 72 {
			t.Errorf("%d bytes stand behind %d", len(got), n)
		}
		size := new(big.Int).SetBytes(got[len(got)-8:])
		noughts := got[1 : len(got)-8]
		if got[0] != 128 || bytes.Count(noughts, []byte{0}) != len(noughts) || size.Cmp(new(big.Int).SetUint64(8*n)) != 0 {
			t.Errorf("behind %d bytes stands %v", n, got)
		}
	}
	for _, n := range []uint64{1<<29 - 1, 1 << 29, 1<<31 - 1} {
		got := ending(n)
		if size := new(big.Int).SetBytes(got[len(got)-8:]); size.Cmp(new(big.Int).SetUint64(8*n)) != 0 {
			t.Errorf("behind %d bytes stands the size %d", n, size)
		}
	}
}

// primes answers the first n primes.
func primes(n int) []int64 {
	var list []int64
	for p := int64(2); len(list) < n; p++ {
		if !slices.ContainsFunc(list, func(q int64) bool { return p%q == 0 }) {
			list = append(list, p)
		}
	}
	return list
}

// isRoot answers whether x is the first 32 bits of the fraction of a root of n, of the square or the cube.
func isRoot(x uint32, n, power int64) bool {
	scaled := new(big.Int).Lsh(big.NewInt(n), uint(32*power))
	for whole := int64(1); whole <= n; whole++ {
		root := new(big.Int).Lsh(big.NewInt(whole), 32)
		root.Add(root, new(big.Int).SetUint64(uint64(x)))
		next := new(big.Int).Add(root, big.NewInt(1))
		root.Exp(root, big.NewInt(power), nil)
		next.Exp(next, big.NewInt(power), nil)
		if root.Cmp(scaled) <= 0 && scaled.Cmp(next) < 0 {
			return true
		}
	}
	return false
}

// P5.1: the constants and the first state are the roots' fractions that the chapter names.
func TestConstants(t *testing.T) {
	list := primes(64)
	for i, x := range constants {
		if !isRoot(x, list[i], 3) {
			t.Errorf("K%d is %08x, which isn't of the cube root of %d", i, x, list[i])
		}
	}
	for i, x := range first {
		if !isRoot(x, list[i], 2) {
			t.Errorf("H%d is %08x, which isn't of the square root of %d", i, x, list[i])
		}
	}
}

// P5.1: a state that is handed on stays what it was.
func TestStatesAreValues(t *testing.T) {
	was, table := first, constants
	s := first
	one := s.takeIn(block{1, 2, 3})
	if s != was || first != was || constants != table || one == was {
		t.Error("a state, or the constants, changed with a block")
	}
	if s.takeIn(block{1, 2, 3}) != one {
		t.Error("the same block behind the same state has another one")
	}
}

// P5.1, R5: no parts, and parts without bytes, are no bytes.
func TestNothing(t *testing.T) {
	want := fromHex(t, ofNothing)
	same(t, "no parts", Sum(), want)
	for what, parts := range map[string][][]byte{
		"a nil list":       nil,
		"an empty list":    {},
		"a nil part":       {nil},
		"an empty part":    {{}},
		"a part cut short": {[]byte("abc")[:0]},
		"several":          {nil, {}, nil, {}, []byte("x")[1:]},
	} {
		same(t, what, Sum(parts...), want)
		same(t, what+" written", written(parts...).Sum(), want)
	}
}

// P5.1: a zero Digest is ready, be it a variable, a new one, a literal or a field.
func TestZeroDigest(t *testing.T) {
	var field struct {
		ahead  int
		digest Digest
	}
	var variable Digest
	literal := Digest{}
	for _, d := range []*Digest{&variable, new(Digest), &literal, &field.digest} {
		same(t, "a zero Digest", d.Sum(), fromHex(t, ofNothing))
		same(t, "a zero Digest, asked again", d.Sum(), fromHex(t, ofNothing))
		d.Write([]byte("abc"))
		same(t, "abc", d.Sum(), standard([]byte("abc")))
	}
}

// P5.1: an empty Write ahead of the others, asked for the hash or not, is nothing.
func TestEmptyWriteAhead(t *testing.T) {
	for _, n := range edges {
		m := some(newRand(), n)
		d := written(nil, []byte{})
		same(t, "nothing", d.Sum(), standard(nil))
		d.Write(m)
		d.Write(nil)
		same(t, fmt.Sprintf("%d bytes behind nothing", n), d.Sum(), standard(m))
	}
}

// P5.1, R1: of a nil *Digest nothing is kept, and its hash is that of nothing.
func TestNilDigest(t *testing.T) {
	var d *Digest
	want := fromHex(t, ofNothing)
	same(t, "nil", d.Sum(), want)
	for _, b := range [][]byte{nil, {}, []byte("abc"), make([]byte, 64), make([]byte, 1000)} {
		d.Write(b)
		same(t, fmt.Sprintf("nil behind %d bytes", len(b)), d.Sum(), want)
	}
	if d != nil {
		t.Error("a nil *Digest isn't nil behind a Write")
	}
}

// P5.1: Sum changes nothing, between any two writes, and asked twice.
func TestSumChangesNothing(t *testing.T) {
	m := some(newRand(), 200)
	for cut := range len(m) + 1 {
		var d Digest
		for _, part := range [][]byte{m[:cut], m[cut:]} {
			d.Write(part)
			was := d
			one, two := d.Sum(), d.Sum()
			if one != two || d != was {
				t.Errorf("Sum behind a cut at %d changed something", cut)
			}
		}
		same(t, fmt.Sprintf("asked at %d", cut), d.Sum(), standard(m))
	}
	var d Digest
	for i := range m {
		same(t, fmt.Sprintf("the first %d bytes", i), d.Sum(), standard(m[:i]))
		same(t, fmt.Sprintf("the first %d bytes again", i), d.Sum(), standard(m[:i]))
		d.Write(m[i : i+1])
	}
	same(t, "all bytes", d.Sum(), standard(m))
}

// P5.1: parts stand in their order, and one may stand there twice.
func TestOrderOfParts(t *testing.T) {
	a, b := []byte("a"), []byte("bc")
	same(t, "a, bc", Sum(a, b), standard([]byte("abc")))
	same(t, "bc, a", Sum(b, a), standard([]byte("bca")))
	same(t, "a, bc, a, a", Sum(a, b, a, a), standard([]byte("abcaa")))
	m := some(newRand(), 100)
	same(t, "one part three times", Sum(m, m, m), standard(bytes.Repeat(m, 3)))
	same(t, "parts that overlap", Sum(m[:70], m[30:]), standard(append(bytes.Clone(m[:70]), m[30:]...)))
}

// P5.2: a message cut in every way into two parts.
func TestTwoParts(t *testing.T) {
	for _, n := range edges {
		m := some(newRand(), n)
		want := standard(m)
		for cut := range n + 1 {
			what := fmt.Sprintf("%d bytes cut at %d", n, cut)
			same(t, what, Sum(m[:cut], m[cut:]), want)
			same(t, what+", written", written(m[:cut], m[cut:]).Sum(), want)
		}
	}
}

// P5.2: a message cut in every way into three parts.
func TestThreeParts(t *testing.T) {
	m := some(newRand(), 135)
	want := standard(m)
	for one := range len(m) + 1 {
		for two := one; two <= len(m); two++ {
			if got := Sum(m[:one], m[one:two], m[two:]); got != want {
				t.Fatalf("cut at %d and %d: %x, want %x", one, two, got, want)
			}
		}
	}
}

// P5.2: parts of one length each, single bytes and whole blocks among them.
func TestPartsOfOneLength(t *testing.T) {
	m := some(newRand(), 1000)
	want := standard(m)
	for n := 1; n <= 200; n++ {
		parts := slices.Collect(slices.Chunk(m, n))
		what := fmt.Sprintf("parts of %d bytes", n)
		same(t, what, Sum(parts...), want)
		same(t, what+", written", written(parts...).Sum(), want)
	}
}

// P5.2: single bytes, at each length about a block's end.
func TestSingleBytes(t *testing.T) {
	for _, n := range edges {
		m := some(newRand(), n)
		same(t, fmt.Sprintf("%d single bytes", n), Sum(slices.Collect(slices.Chunk(m, 1))...), standard(m))
	}
}

// P5.2: many parts of any lengths, with empty and nil ones among them.
func TestManyParts(t *testing.T) {
	r := newRand()
	for range 500 {
		m := some(r, r.IntN(2000))
		parts := cutUp(r, m)
		what := fmt.Sprintf("%d bytes in %d parts", len(m), len(parts))
		same(t, what, Sum(parts...), standard(m))
		same(t, what+", written", written(parts...).Sum(), standard(m))
	}
}

// cutUp cuts m into parts by chance, of which some have no bytes.
func cutUp(r *rand.Rand, m []byte) [][]byte {
	parts := [][]byte{nil}
	for len(m) > 0 {
		n := r.IntN(min(len(m), 130) + 1)
		parts = append(parts, m[:n])
		m = m[n:]
		if r.IntN(3) == 0 {
			parts = append(parts, nil, []byte{})
		}
	}
	return parts
}

// R5: bytes that are handed in stay as they are, and so do their spare room and the list of the parts.
func TestBytesHandedInStay(t *testing.T) {
	for _, n := range edges {
		room := some(newRand(), n+200)
		was := bytes.Clone(room)
		half := n / 2
		list := [][]byte{room[:half], nil, room[half:n], room[:0], room[n:]}
		parts := list[:3]
		got := Sum(parts...)
		d := written(parts...)
		same(t, fmt.Sprintf("%d bytes with room behind them", n), got, standard(was[:n]))
		same(t, fmt.Sprintf("%d bytes with room behind them, written", n), d.Sum(), got)
		if !bytes.Equal(room, was) {
			t.Errorf("%d bytes that were handed in, or those behind them, were changed", n)
		}
		for i, size := range []int{half, 0, n - half, 0, 200} {
			if len(list[i]) != size {
				t.Errorf("the list of the parts was changed at %d", i)
			}
		}
	}
}

// R5: bytes may be changed behind a Write, and the hash is still that of what was written.
func TestBytesChangedBehindAWrite(t *testing.T) {
	r := newRand()
	for _, n := range edges {
		var d Digest
		var all []byte
		buffer := make([]byte, n)
		for range 5 {
			copy(buffer, some(r, n))
			all = append(all, buffer...)
			d.Write(buffer)
			clear(buffer)
			same(t, fmt.Sprintf("%d bytes, changed behind the Write", n), d.Sum(), standard(all))
		}
	}
}

// R7: two Digests that are written into by turns.
func TestTwoDigestsByTurns(t *testing.T) {
	r := newRand()
	var digests [3]Digest
	var all [3][]byte
	for range 300 {
		i := r.IntN(len(digests))
		part := some(r, r.IntN(100))
		digests[i].Write(part)
		all[i] = append(all[i], part...)
		for j := range digests {
			same(t, fmt.Sprintf("the Digest %d", j), digests[j].Sum(), standard(all[j]))
		}
	}
}

// R7: a copy of a Digest goes on by itself.
func TestCopiedDigest(t *testing.T) {
	m := some(newRand(), 200)
	for n := range 130 {
		one := written(m[:n])
		two := *one
		one.Write(m[n:])
		same(t, "the copy", two.Sum(), standard(m[:n]))
		two.Write(m[:100])
		same(t, "what was copied", one.Sum(), standard(m))
		same(t, "the copy, written into", two.Sum(), standard(append(bytes.Clone(m[:n]), m[:100]...)))
	}
}

// P2: the same calls have the same answers, whatever was hashed ahead of them.
func TestSameAnswersAgain(t *testing.T) {
	for _, m := range messages() {
		one := Sum(m)
		Sum([]byte("another"), m)
		if Sum(m) != one {
			t.Errorf("the hash of %d bytes is another one the second time", len(m))
		}
	}
}

func BenchmarkSum(b *testing.B) {
	m := make([]byte, 1<<16)
	b.SetBytes(int64(len(m)))
	for b.Loop() {
		Sum(m)
	}
}
