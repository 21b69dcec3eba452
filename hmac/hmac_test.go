package hmac

import (
	"bytes"
	"crypto/hmac"
	"crypto/sha256"
	"encoding/hex"
	"fmt"
	"math/rand/v2"
	"slices"
	"strings"
	"testing"

	"chronicle/api"
)

// keySizes are the lengths of keys about a hash's and a block's, and of much longer ones.
var keySizes = []int{0, 1, 2, 20, 31, 32, 33, 55, 56, 62, 63, 64, 65, 66, 127, 128, 129, 131, 200, 1000, 10007}

// sizes are the lengths of messages and seeds at which these, with what stands ahead of and behind them, just fit into blocks of 64 bytes, or just don't.
var sizes = []int{0, 1, 21, 22, 23, 30, 31, 32, 54, 55, 56, 57, 63, 64, 65, 86, 87, 94, 95, 119, 120, 127, 128, 129, 150, 151, 191, 192, 193}

func newRand() *rand.Rand { return rand.New(rand.NewPCG(7, 20)) }

// some answers n bytes that follow no rule.
func some(r *rand.Rand, n int) []byte {
	b := make([]byte, n)
	for i := range b {
		b[i] = byte(r.Uint32())
	}
	return b
}

// standard answers the hash with a key that the standard library makes.
func standard(key []byte, parts ...[]byte) api.Hash {
	h := hmac.New(sha256.New, key)
	for _, part := range parts {
		h.Write(part)
	}
	return api.Hash(h.Sum(nil))
}

// standardNumbers answers the first n numbers of the stream from the seed, step by step as the chapter says, by the standard library's hashes.
func standardNumbers(seed []byte, n int) []api.Hash {
	v, k := bytes.Repeat([]byte{1}, 32), make([]byte, 32)
	become := func(b *[]byte, parts ...[]byte) {
		h := standard(k, parts...)
		*b = h[:]
	}
	become(&k, v, []byte{0}, seed)
	become(&v, v)
	become(&k, v, []byte{1}, seed)
	become(&v, v)
	var list []api.Hash
	for len(list) < n {
		if len(list) > 0 {
			become(&k, v, []byte{0})
			become(&v, v)
		}
		become(&v, v)
		list = append(list, api.Hash(v))
	}
	return list
}

// numbers answers the next n numbers of the stream.
func numbers(s *Stream, n int) []api.Hash {
	var list []api.Hash
	for range n {
		list = append(list, s.Next())
	}
	return list
}

// same holds a hash to the one that is wanted.
func same(t *testing.T, what string, got, want api.Hash) {
	t.Helper()
	if got != want {
		t.Errorf("%s: the hash is %x, want %x", what, got, want)
	}
}

// sameNumbers holds the next numbers of a stream to those that are wanted.
func sameNumbers(t *testing.T, what string, s *Stream, want []api.Hash) {
	t.Helper()
	if s == nil {
		t.Fatalf("%s: no stream", what)
	}
	for i, w := range want {
		if got := s.Next(); got != w {
			t.Errorf("%s: the number %d is %x, want %x", what, i, got, w)
		}
	}
}

// fromHex answers the bytes of those hexadecimal digits.
func fromHex(t *testing.T, digits string) []byte {
	t.Helper()
	b, err := hex.DecodeString(digits)
	if err != nil {
		t.Fatalf("%q are no digits of bytes", digits)
	}
	return b
}

// cutUp cuts m into parts by chance, of which some have no bytes.
func cutUp(r *rand.Rand, m []byte) [][]byte {
	parts := [][]byte{nil}
	for len(m) > 0 {
		n := r.IntN(min(len(m), 130) + 1)
		parts = append(parts, m[:n])
		m = m[n:]
		if r.IntN(3) == 0 {
			parts = append(parts, nil, []byte{})
		}
	}
	return parts
}

// nothings are the ways to hand in no bytes as parts.
func nothings() map[string][][]byte {
	return map[string][][]byte{
		"a nil list":       nil,
		"an empty list":    {},
		"a nil part":       {nil},
		"an empty part":    {{}},
		"a part cut short": {[]byte("abc")[:0]},
		"several":          {nil, {}, nil, {}, []byte("x")[1:]},
	}
}

// P7.1: the chapter's example, and hashes that are known from elsewhere.
func TestKnownHashes(t *testing.T) {
	for _, c := range []struct{ key, message, digits string }{
		{"", "", "b613679a0814d9ec772f95d778c35fc5ff1697c493715653c6c712144292c5ad"},
		{"key", "The quick brown fox jumps over the lazy dog", "f7bc83f430538424b13298e6aa6fb143ef4d59a14946175997479dbc2d1a3cd8"},
		{strings.Repeat("\x0b", 20), "Hi There", "b0344c61d8db38535ca8afceaf0bf12b881dc200c9833da726e9376c2e32cff7"},
		{"Jefe", "what do ya want for nothing?", "5bdcc146bf60754e6a042426089575c75a003f089d2739839dec58b964ec3843"},
		{strings.Repeat("\xaa", 20), strings.Repeat("\xdd", 50), "773ea91e36800e46854db8ebd09181a72959098b3ef8c122d9635514ced565fe"},
		{strings.Repeat("\xaa", 131), "Test Using Larger Than Block-Size Key - Hash Key First", "60e431591ee0b67f0d8a26aacbf5b77f8e0bc6213728c5140546040f0ee37f54"},
		{strings.Repeat("\xaa", 131), "This is a test using a larger than block-size key and a larger than block-size data. The key needs to be hashed before being used by the HMAC algorithm.",
			"9b09ffa71b942fcb27635fbcd5b0e944bfdc63644f0713938a7f51535c3a35e2"},
	} {
		what := fmt.Sprintf("%q with %q", c.message, c.key)
		same(t, what, Mac([]byte(c.key), []byte(c.message)), api.Hash(fromHex(t, c.digits)))
	}
	h := Mac(nil)
	if [4]byte(h[:4]) != [4]byte{182, 19, 103, 154} {
		t.Errorf("the hash of nothing with no key begins with %d", h[:4])
	}
}

// P7.1: the chapter's words, with keys that need nothing done to them but the noughts.
func TestHashOfTheWords(t *testing.T) {
	r := newRand()
	for n := range 65 {
		key, message := some(r, n), some(r, 2*n)
		var inner, outer [64]byte
		copy(inner[:], key)
		copy(outer[:], key)
		for i := range 64 {
			inner[i] ^= 54
			outer[i] ^= 92
		}
		within := sha256.Sum256(append(inner[:], message...))
		same(t, fmt.Sprintf("a key of %d bytes", n), Mac(key, message), sha256.Sum256(append(outer[:], within[:]...)))
	}
}

// P7.1: keys of each length to over two blocks, and of many bytes, each with messages of no bytes, of few and of many blocks.
func TestHashesAsTheStandardMakesThem(t *testing.T) {
	r := newRand()
	lengths := slices.Concat(keySizes, []int{100003})
	for n := range 140 {
		lengths = append(lengths, n)
	}
	for _, n := range lengths {
		key := some(r, n)
		for _, size := range slices.Concat(sizes, []int{1000, 4096, 20011}) {
			message := some(r, size)
			same(t, fmt.Sprintf("%d bytes with a key of %d", size, n), Mac(key, message), standard(key, message))
		}
	}
	message := some(r, 1<<20+3)
	same(t, "many blocks", Mac([]byte("key"), message), standard([]byte("key"), message))
	same(t, "a key of many blocks", Mac(message, message), standard(message, message))
}

// P7.1: keys and messages whose bytes are all the same, those that the key is laid over among them.
func TestBytesOfOneKind(t *testing.T) {
	for _, n := range keySizes {
		for _, x := range []byte{0, 1, 54, 92, 128, 255} {
			key := bytes.Repeat([]byte{x}, n)
			same(t, fmt.Sprintf("a key of %d bytes %d", n, x), Mac(key, []byte("m")), standard(key, []byte("m")))
			same(t, fmt.Sprintf("%d bytes %d", n, x), Mac([]byte("k"), key), standard([]byte("k"), key))
		}
	}
}

// P7.1: each bit of a key, of one that is hashed too, changes the hash as it should.
func TestEachBitOfAKey(t *testing.T) {
	for _, n := range []int{1, 31, 32, 63, 64, 65, 130} {
		plain := Mac(make([]byte, n), []byte("message"))
		for bit := range n * 8 {
			key := make([]byte, n)
			key[bit/8] = 1 << (bit % 8)
			got := Mac(key, []byte("message"))
			same(t, fmt.Sprintf("a key of %d bytes with the bit %d", n, bit), got, standard(key, []byte("message")))
			if got == plain {
				t.Errorf("the bit %d of a key of %d bytes is nothing to the hash", bit, n)
			}
		}
	}
}

// P7.1: noughts behind a key, up to 64 bytes, are nothing; one more is something.
func TestNoughtsBehindAKey(t *testing.T) {
	message := []byte("message")
	for n := range 65 {
		key := bytes.Repeat([]byte{200}, n)
		want := Mac(key, message)
		for full := n; full <= 64; full++ {
			same(t, fmt.Sprintf("a key of %d bytes with noughts up to %d", n, full), Mac(append(bytes.Clone(key), make([]byte, full-n)...), message), want)
		}
		if Mac(append(bytes.Clone(key), make([]byte, 65-n)...), message) == want {
			t.Errorf("a key of %d bytes with noughts up to 65 has the hash of that without them", n)
		}
	}
}

// P7.1: a key of more than 64 bytes is its hash; one of 64 bytes and fewer isn't.
func TestKeyAgainstItsHash(t *testing.T) {
	r := newRand()
	for _, n := range keySizes {
		key, message := some(r, n), some(r, 50)
		short := sha256.Sum256(key)
		if equal := Mac(key, message) == Mac(short[:], message); equal != (n > 64) {
			t.Errorf("a key of %d bytes has the hash of its own hash: %v", n, equal)
		}
	}
}

// P7.1, R5: no key, be it nil or empty, is 64 noughts; no parts, and parts without bytes, are no bytes.
func TestNothing(t *testing.T) {
	for _, n := range keySizes {
		key := some(newRand(), n)
		for what, parts := range nothings() {
			same(t, fmt.Sprintf("%s with a key of %d bytes", what, n), Mac(key, parts...), standard(key))
		}
	}
	for _, key := range [][]byte{nil, {}, []byte("abc")[:0], make([]byte, 64)} {
		same(t, "no key", Mac(key), standard(nil))
		same(t, "no key, a message", Mac(key, []byte("a"), []byte("b")), standard(nil, []byte("ab")))
	}
}

// P7.1: parts stand in their order, one may stand there twice, and it may be the key.
func TestOrderOfParts(t *testing.T) {
	k, a, b := []byte("k"), []byte("a"), []byte("bc")
	same(t, "a, bc", Mac(k, a, b), standard(k, []byte("abc")))
	same(t, "bc, a", Mac(k, b, a), standard(k, []byte("bca")))
	same(t, "a, bc, a, a", Mac(k, a, b, a, a), standard(k, []byte("abcaa")))
	m := some(newRand(), 100)
	same(t, "the key, three times", Mac(m, m, m, m), standard(m, bytes.Repeat(m, 3)))
	same(t, "parts that overlap", Mac(m[20:60], m[:70], m[30:]), standard(m[20:60], m[:70], m[30:]))
	if Mac(a, b) == Mac(b, a) || Mac(nil, a) == Mac(a) || Mac(a, b) == Mac([]byte("ab"), []byte("c")) {
		t.Error("the key is a part like others")
	}
}

// P7.2: a message cut in every way into two parts, and into single bytes.
func TestTwoParts(t *testing.T) {
	r := newRand()
	for _, n := range sizes {
		key, m := some(r, n%90), some(r, n)
		want := standard(key, m)
		for cut := range n + 1 {
			same(t, fmt.Sprintf("%d bytes cut at %d", n, cut), Mac(key, m[:cut], m[cut:]), want)
		}
		same(t, fmt.Sprintf("%d single bytes", n), Mac(key, slices.Collect(slices.Chunk(m, 1))...), want)
	}
}

// P7.2: a message cut in every way into three parts.
func TestThreeParts(t *testing.T) {
	key, m := []byte("key"), some(newRand(), 70)
	want := standard(key, m)
	for one := range len(m) + 1 {
		for two := one; two <= len(m); two++ {
			if got := Mac(key, m[:one], m[one:two], m[two:]); got != want {
				t.Fatalf("cut at %d and %d: %x, want %x", one, two, got, want)
			}
		}
	}
}

// P7.2: many parts of any lengths, with empty and nil ones among them.
func TestManyParts(t *testing.T) {
	r := newRand()
	for range 300 {
		key, m := some(r, r.IntN(130)), some(r, r.IntN(2000))
		parts := cutUp(r, m)
		same(t, fmt.Sprintf("%d bytes in %d parts", len(m), len(parts)), Mac(key, parts...), standard(key, m))
	}
}

// P7.1: numbers of streams that are known from elsewhere.
func TestKnownNumbers(t *testing.T) {
	const key = "c9afa9d845ba75166b5c215767b1d6934e50c3db36e89b127b8a622b120f6721"
	for _, c := range []struct {
		seed    string
		numbers []string
	}{
		{key + "af2bdbe1aa9b6ec1e2ade1d694f41fc71a831d0268e9891562113d8a62add1bf", []string{
			"a6e3c57dd01abe90086538398355dd4c3b17aa873382b0f24d6129493d8aad60"}},
		{key + "9f86d081884c7d659a2feaa0c55ad015a3bf4f1b2b0b822cd15d6c15b0f00a08", []string{
			"d16b6ae827f17175e040871a1c7ec3500192c4c92677336ec2537acaee0008e0"}},
		{"009a4d6792295a7f730fc3f2b49cbc0f62e862272f" + "01795edf0d54db760f156d0dac04c0322b3a204224", []string{
			"9305a46de7ff8eb107194debd3fd48aa20d5e7656cbe0ea69d2a8d4e7c67314a",
			"c70c78608a3b5be9289be90ef6e81a9e2c1516d5751d2f75f50033e45f73bdeb",
			"475e80e992140567fcc3a50dab90fe84bcd7bb03638e9c4656a06f37f6508a7c"}},
	} {
		s := New(fromHex(t, c.seed))
		for i, digits := range c.numbers {
			same(t, fmt.Sprintf("the number %d from %s", i, c.seed), s.Next(), api.Hash(fromHex(t, digits)))
		}
	}
}

// P7.1: the first numbers of streams from seeds of each length to over four blocks, and of many bytes.
func TestNumbersOfTheWords(t *testing.T) {
	r := newRand()
	lengths := []int{1000, 4096, 65536, 100003}
	for n := range 280 {
		lengths = append(lengths, n)
	}
	for _, n := range lengths {
		seed := some(r, n)
		sameNumbers(t, fmt.Sprintf("a seed of %d bytes", n), New(seed), standardNumbers(seed, 5))
	}
}

// P7.1: many numbers of one stream, all of them different.
func TestManyNumbers(t *testing.T) {
	for _, seed := range [][]byte{nil, {0}, {1}, []byte("seed"), some(newRand(), 64), some(newRand(), 5000)} {
		want := standardNumbers(seed, 2000)
		sameNumbers(t, fmt.Sprintf("a seed of %d bytes", len(seed)), New(seed), want)
		seen := map[api.Hash]bool{}
		for _, h := range want {
			if seen[h] {
				t.Errorf("the number %x comes twice", h)
			}
			seen[h] = true
		}
	}
}

// P7.1, R5: a seed of no parts, and of parts without bytes, is a seed of no bytes.
func TestSeedOfNothing(t *testing.T) {
	want := standardNumbers(nil, 20)
	sameNumbers(t, "no parts", New(), want)
	for what, parts := range nothings() {
		sameNumbers(t, what, New(parts...), want)
	}
}

// P7.1: seeds that differ have streams that differ.
func TestSeedsThatDiffer(t *testing.T) {
	from := map[api.Hash]string{}
	for _, seed := range []string{"", "\x00", "\x00\x00", "\x01", "a", "b", "ab", "ba", "ab\x00", "\x00ab", strings.Repeat("a", 64), strings.Repeat("a", 65)} {
		s := New([]byte(seed))
		for range 20 {
			h := s.Next()
			if other, ok := from[h]; ok {
				t.Errorf("the seeds %q and %q have one number", seed, other)
			}
			from[h] = seed
		}
	}
}

// P7.1: the parts of a seed stand in their order, and one may stand there twice.
func TestOrderOfASeed(t *testing.T) {
	a, b := []byte("a"), []byte("bc")
	sameNumbers(t, "a, bc", New(a, b), standardNumbers([]byte("abc"), 5))
	sameNumbers(t, "bc, a", New(b, a), standardNumbers([]byte("bca"), 5))
	sameNumbers(t, "a, bc, a, a", New(a, b, a, a), standardNumbers([]byte("abcaa"), 5))
}

// P7.2: a seed cut in every way into two parts, and into single bytes.
func TestSeedInTwoParts(t *testing.T) {
	r := newRand()
	for _, n := range sizes {
		seed := some(r, n)
		want := standardNumbers(seed, 3)
		for cut := range n + 1 {
			sameNumbers(t, fmt.Sprintf("a seed of %d bytes cut at %d", n, cut), New(seed[:cut], seed[cut:]), want)
		}
		sameNumbers(t, fmt.Sprintf("a seed of %d single bytes", n), New(slices.Collect(slices.Chunk(seed, 1))...), want)
	}
}

// P7.2: a seed in many parts of any lengths, with empty and nil ones among them.
func TestSeedInManyParts(t *testing.T) {
	r := newRand()
	for range 200 {
		seed := some(r, r.IntN(1500))
		parts := cutUp(r, seed)
		sameNumbers(t, fmt.Sprintf("a seed of %d bytes in %d parts", len(seed), len(parts)), New(parts...), standardNumbers(seed, 3))
	}
}

// P7.1, R1: the numbers of a nil *Stream are zero hashes.
func TestNilStream(t *testing.T) {
	var s *Stream
	for range 5 {
		same(t, "nil", s.Next(), api.Hash{})
	}
	if s != nil {
		t.Error("a nil *Stream isn't nil behind Next")
	}
}

// R1: a Stream that New didn't make has numbers too, whatever they are.
func TestZeroStream(t *testing.T) {
	var s Stream
	if one, two := s.Next(), s.Next(); one == two {
		t.Error("a zero Stream doesn't go on")
	}
}

// R5: bytes that are handed in stay as they are, and so do their spare room and the list of the parts.
func TestBytesHandedInStay(t *testing.T) {
	for _, n := range append([]int{2000}, sizes...) {
		room := some(newRand(), n+200)
		was := bytes.Clone(room)
		half := n / 2
		list := [][]byte{room[:half], nil, room[half:n], room[:0], room[n:], room}
		handed := slices.Clone(list)
		parts := list[:3]
		same(t, fmt.Sprintf("%d bytes with room behind them", n), Mac(room[:n], parts...), standard(was[:n], was[:n]))
		same(t, "a key with room behind it", Mac(room[:half], parts...), standard(was[:half], was[:n]))
		sameNumbers(t, fmt.Sprintf("a seed of %d bytes with room behind them", n), New(parts...), standardNumbers(was[:n], 4))
		if !bytes.Equal(room, was) {
			t.Errorf("%d bytes that were handed in, or those behind them, were changed", n)
		}
		for i := range list {
			if !samePlace(list[i], handed[i]) {
				t.Errorf("the list of the parts was changed at %d", i)
			}
		}
	}
}

// samePlace answers whether both are the same bytes, not only equal ones.
func samePlace(a, b []byte) bool {
	if len(a) != len(b) || cap(a) != cap(b) {
		return false
	}
	return cap(a) == 0 || &a[:1][0] == &b[:1][0]
}

// R5: a seed may be changed behind New, and the list of its parts too; the stream goes on as it would have.
func TestSeedChangedBehindNew(t *testing.T) {
	r := newRand()
	for _, n := range sizes {
		seed := some(r, n)
		want := standardNumbers(seed, 10)
		parts := [][]byte{seed[:n/2], seed[n/2:]}
		s := New(parts...)
		clear(seed)
		sameNumbers(t, "the seed changed", s, want[:3])
		clear(parts)
		sameNumbers(t, "the list changed", s, want[3:])
	}
}

// R7: streams from one seed and from others, asked in turns.
func TestStreamsByTurns(t *testing.T) {
	r := newRand()
	seeds := [][]byte{[]byte("seed"), []byte("seed"), []byte("another"), nil}
	var streams []*Stream
	var want [][]api.Hash
	for _, seed := range seeds {
		streams = append(streams, New(seed))
		want = append(want, standardNumbers(seed, 400))
	}
	for range 400 {
		i := r.IntN(len(streams))
		sameNumbers(t, fmt.Sprintf("the stream %d", i), streams[i], want[i][:1])
		want[i] = want[i][1:]
		Mac([]byte("seed"), []byte("between"))
		New(seeds[i]).Next()
	}
	one, two := New([]byte("seed")), New([]byte("seed"))
	if one == two {
		t.Error("New answers one stream twice")
	}
	first := numbers(one, 10)
	sameNumbers(t, "the other one, behind ten of the first", two, first)
}

// R7: a copy of a Stream goes on by itself.
func TestCopiedStream(t *testing.T) {
	want := standardNumbers([]byte("seed"), 20)
	for n := range 10 {
		one := New([]byte("seed"))
		sameNumbers(t, "ahead of the copy", one, want[:n])
		two := *one
		sameNumbers(t, "what was copied", one, want[n:])
		sameNumbers(t, "the copy", &two, want[n:])
	}
}

// P2, R5: a number that was answered stays, and the same calls have the same answers.
func TestSameAnswersAgain(t *testing.T) {
	s := New([]byte("seed"))
	first := s.Next()
	was := first
	numbers(s, 5)
	same(t, "the first number, behind others", first, was)
	clear(first[:])
	sameNumbers(t, "a number changed by who asked", s, standardNumbers([]byte("seed"), 10)[6:])
	r := newRand()
	for _, n := range keySizes {
		key, message := some(r, n), some(r, n)
		one := Mac(key, message)
		Mac([]byte("another"), message)
		same(t, "the second time", Mac(key, message), one)
	}
}

func BenchmarkMac(b *testing.B) {
	key, message := make([]byte, 32), make([]byte, 32)
	for b.Loop() {
		Mac(key, message)
	}
}
