package merkle

import (
	"bytes"
	"crypto/sha256"
	"fmt"
	"math"
	"math/bits"
	"slices"
	"testing"

	"chronicle/api"
)

// entrySizes are the lengths at which an entry, with the byte ahead of it, just fits into the hash's blocks, or just doesn't, and greater ones.
var entrySizes = []int{0, 1, 2, 31, 32, 53, 54, 55, 56, 57, 62, 63, 64, 65, 118, 119, 120, 126, 127, 128, 199, 200, 201, 300, 500, 1000}

// P16.1: leaves and roots that are known from elsewhere.
func TestKnownRoots(t *testing.T) {
	entries := []string{
		"", "\x00", "\x10", "\x20\x21", "\x30\x31", "\x40\x41\x42\x43",
		"\x50\x51\x52\x53\x54\x55\x56\x57", "\x60\x61\x62\x63\x64\x65\x66\x67\x68\x69\x6a\x6b\x6c\x6d\x6e\x6f",
	}
	roots := []string{
		ofNothing,
		"6e340b9cffb37a989ca544e6bb780a2c78901d3fb33738768511a30617afa01d",
		"fac54203e7cc696cf0dfcb42c92a1d9dbaf70ad9e621f4bd8d98662f00e3c125",
		"aeb6bcfe274b70a14fb067a5e5578264db0fa9b51af5e0ba159158f329e06e77",
		"d37ee418976dd95753c1c73862b9398fa2a2cf9b4ff0fdfe8b30cd95209614b7",
		"4e3bbb1f7b478dcfe71fb631631519a3bca12c9aefca1612bfce4c13a86264d4",
		"76e67dadbcdf1e10e1b74ddc608abd2f98dfb16fbce75277b5232a127f2087ef",
		"ddb89be403809e325750d3d263cd78929c2942b7942a34b77e122c9594a74c8c",
		"5dc9da79a70659a9ad559cb701ded9a2ab9d823aad2f4960cfe370eff4604328",
	}
	var l []api.Hash
	for _, entry := range entries {
		l = append(l, Leaf([]byte(entry)))
	}
	for n, digits := range roots {
		same(t, fmt.Sprintf("the root of %d", n), Root(l[:n]), fromHex(t, digits))
	}
}

// P16.1: the hash of an entry, of all lengths about the hash's blocks.
func TestLeaf(t *testing.T) {
	r := newRand()
	for _, n := range entrySizes {
		for _, b := range [][]byte{some(r, n), make([]byte, n), bytes.Repeat([]byte{1}, n), bytes.Repeat([]byte{255}, n)} {
			same(t, fmt.Sprintf("Leaf of %d bytes", n), Leaf(b), plainLeaf(b))
		}
	}
	for x := range 256 {
		b := []byte{byte(x)}
		same(t, fmt.Sprintf("Leaf of the byte %d", x), Leaf(b), plainLeaf(b))
	}
}

// P16.1, R5: an entry of no bytes, nil or not, has the hash of a byte 0, and not that of nothing.
func TestLeafOfNothing(t *testing.T) {
	want := fromHex(t, "6e340b9cffb37a989ca544e6bb780a2c78901d3fb33738768511a30617afa01d")
	same(t, "nil", Leaf(nil), want)
	same(t, "no bytes", Leaf([]byte{}), want)
	same(t, "no bytes, with room behind them", Leaf([]byte("abc")[:0]), want)
	differ(t, "an entry of no bytes, and nothing", Leaf(nil), fromHex(t, ofNothing))
	differ(t, "an entry of no bytes, and the root of none", Leaf(nil), Root(nil))
}

// P16.1: a byte 0 stands ahead of an entry, which isn't hashed alone, nor behind another byte.
func TestByteAheadOfAnEntry(t *testing.T) {
	r := newRand()
	for _, n := range entrySizes {
		b := some(r, n)
		what := fmt.Sprintf("an entry of %d bytes", n)
		for x := range 256 {
			text := slices.Concat([]byte{byte(x)}, b)
			if got := Leaf(b) == sha256.Sum256(text); got != (x == 0) {
				t.Errorf("%s: that it has a byte %d ahead of it is %t", what, x, got)
			}
		}
		differ(t, what+" and its bytes alone", Leaf(b), sha256.Sum256(b))
	}
}

// pairs answers pairs of hashes, like ones and such with all bits the same among them.
func pairs() [][2]api.Hash {
	var ones api.Hash
	for i := range ones {
		ones[i] = 255
	}
	l := append(hashes(newRand(), 6), api.Hash{}, ones)
	var list [][2]api.Hash
	for _, a := range l {
		for _, b := range l {
			list = append(list, [2]api.Hash{a, b})
		}
	}
	return list
}

// P16.1: the hash of two hashes, like ones and others, and of the same two the other way round.
func TestNode(t *testing.T) {
	for _, p := range pairs() {
		a, b := p[0], p[1]
		what := fmt.Sprintf("Node of %x and %x", a[:2], b[:2])
		same(t, what, Node(a, b), plainNode(a, b))
		same(t, what+", turned round", Node(b, a), plainNode(b, a))
		if a != b {
			differ(t, what+", both ways round", Node(a, b), Node(b, a))
		}
		differ(t, what+" and the first one", Node(a, b), a)
		differ(t, what+" and the second one", Node(a, b), b)
	}
}

// P16.1: each bit of both hashes tells.
func TestNodeBitByBit(t *testing.T) {
	l := hashes(newRand(), 2)
	was := Node(l[0], l[1])
	for i := range 512 {
		p := [2]api.Hash{l[0], l[1]}
		p[i/256][i%256/8] ^= 1 << (i % 8)
		what := fmt.Sprintf("the bit %d of two hashes changed", i)
		same(t, what, Node(p[0], p[1]), plainNode(p[0], p[1]))
		differ(t, what, Node(p[0], p[1]), was)
	}
}

// P16.1: a byte 1 stands ahead of two hashes, which aren't hashed alone, nor behind another byte.
func TestByteAheadOfTwoHashes(t *testing.T) {
	for _, p := range pairs() {
		a, b := p[0], p[1]
		both := slices.Concat(a[:], b[:])
		for x := range 256 {
			text := slices.Concat([]byte{byte(x)}, both)
			if got := Node(a, b) == sha256.Sum256(text); got != (x == 1) {
				t.Errorf("that two hashes have a byte %d ahead of them is %t", x, got)
			}
		}
		differ(t, "two hashes and their bytes alone", Node(a, b), sha256.Sum256(both))
		differ(t, "two hashes and an entry of their bytes", Node(a, b), Leaf(both))
		differ(t, "two hashes and an entry of their text", Node(a, b), Leaf(slices.Concat([]byte{1}, both)))
	}
}

// P16.1, R5: the root of none, nil or not, is the hash of nothing.
func TestRootOfNone(t *testing.T) {
	want := fromHex(t, ofNothing)
	same(t, "nil", Root(nil), want)
	same(t, "no hashes", Root([]api.Hash{}), want)
	same(t, "no hashes, with room behind them", Root(hashes(newRand(), 3)[:0]), want)
	same(t, "no hashes, behind others", Root(hashes(newRand(), 3)[3:]), want)
}

// P16.1: the root of one is that hash, whatever it is.
func TestRootOfOne(t *testing.T) {
	for _, h := range append(hashes(newRand(), 5), api.Hash{}, fromHex(t, ofNothing), Leaf(nil)) {
		same(t, "one hash", Root([]api.Hash{h}), h)
		same(t, "one hash, with room behind it", Root([]api.Hash{h, {1}, {2}}[:1]), h)
	}
}

// P16.1: the shape of small trees, written out.
func TestRootsWrittenOut(t *testing.T) {
	l := hashes(newRand(), 9)
	n := plainNode
	four := n(n(l[0], l[1]), n(l[2], l[3]))
	eight := n(four, n(n(l[4], l[5]), n(l[6], l[7])))
	for i, want := range []api.Hash{
		l[0],
		n(l[0], l[1]),
		n(n(l[0], l[1]), l[2]),
		four,
		n(four, l[4]),
		n(four, n(l[4], l[5])),
		n(four, n(n(l[4], l[5]), l[6])),
		eight,
		n(eight, l[8]),
	} {
		same(t, fmt.Sprintf("the root of %d", i+1), Root(l[:i+1]), want)
	}
}

// P16.1: roots of all numbers of hashes to over 256, each held against the chapter's words worked out in other ways.
func TestRootsWorkedOutOtherwise(t *testing.T) {
	l := hashes(newRand(), 300)
	for n := 1; n <= len(l); n++ {
		what := fmt.Sprintf("the root of %d", n)
		got := Root(l[:n])
		same(t, what, got, plainRoot(l[:n]))
		same(t, what+", row by row", got, rowRoot(l[:n]))
		same(t, what+", by a stack", got, stackRoot(l[:n]))
	}
}

// P16.1: roots of many hashes, about powers of two.
func TestRootsOfMany(t *testing.T) {
	l := hashes(newRand(), 1<<15+1)
	for _, n := range []int{511, 512, 513, 1000, 1023, 1024, 1025, 4095, 4096, 4097, 1<<15 - 1, 1 << 15, 1<<15 + 1} {
		same(t, fmt.Sprintf("the root of %d", n), Root(l[:n]), rowRoot(l[:n]))
	}
}

// P16.1: roots of like hashes, where a tree of another shape is easily taken for the right one.
func TestRootsOfLikeHashes(t *testing.T) {
	for _, h := range []api.Hash{{}, Leaf(nil), Leaf([]byte("a"))} {
		l := slices.Repeat([]api.Hash{h}, 70)
		seen := map[api.Hash]int{}
		for n := 1; n <= len(l); n++ {
			got := Root(l[:n])
			same(t, fmt.Sprintf("the root of %d like hashes", n), got, rowRoot(l[:n]))
			if m, ok := seen[got]; ok {
				t.Errorf("%d and %d like hashes have one root", m, n)
			}
			seen[got] = n
		}
	}
}

// P16.1: each hash tells, and so does its place.
func TestEachHashTells(t *testing.T) {
	r := newRand()
	for n := 1; n <= 65; n++ {
		l := hashes(r, n)
		was := Root(l)
		for i := range l {
			what := fmt.Sprintf("the hash %d of %d", i, n)
			changed := slices.Clone(l)
			changed[i][i%32] ^= 1
			differ(t, what+" changed", Root(changed), was)
			swapped := slices.Clone(l)
			swapped[i], swapped[(i+1)%n] = swapped[(i+1)%n], swapped[i]
			same(t, what+" and the next one swapped", Root(swapped), rowRoot(swapped))
			differ(t, what+" left out", Root(slices.Delete(slices.Clone(l), i, i+1)), was)
			differ(t, what+" put in twice", Root(slices.Insert(slices.Clone(l), i, l[i])), was)
		}
	}
}

// P16.1: of an n below 2 there is no power of two below it.
func TestSplitOfSmall(t *testing.T) {
	for _, n := range []int{1, 0, -1, -2, -3, -4, -5, -64, math.MinInt32, math.MinInt + 1, math.MinInt} {
		if got := Split(n); got != 0 {
			t.Errorf("Split(%d): %d, want 0", n, got)
		}
	}
	for shift := range bits.UintSize {
		n := -1 << shift
		for _, m := range []int{n, n + 1} {
			if got := Split(m); got != 0 {
				t.Errorf("Split(%d): %d, want 0", m, got)
			}
		}
	}
}

// P16.1: the chapter's example, and the other small numbers.
func TestSplitWrittenOut(t *testing.T) {
	for n, want := range []int{0, 0, 1, 2, 2, 4, 4, 4, 4, 8, 8, 8, 8, 8, 8, 8, 8, 16, 16} {
		if got := Split(n); got != want {
			t.Errorf("Split(%d): %d, want %d", n, got, want)
		}
	}
}

// P16.1: each power of two, one below and one above it, up to the greatest int.
func TestSplitAboutPowers(t *testing.T) {
	splits := func(n, want int) {
		if got := Split(n); got != want {
			t.Errorf("Split(%d): %d, want %d", n, got, want)
		}
	}
	for shift := 2; shift < bits.UintSize-1; shift++ {
		power := 1 << shift
		splits(power-1, power/2)
		splits(power, power/2)
		splits(power+1, power)
		splits(power+power/2, power)
		splits(power-1+power, power)
	}
	splits(math.MaxInt, math.MaxInt/2+1)
	splits(math.MaxInt-1, math.MaxInt/2+1)
}

// P16.1: a Split is a power of two below n, and its double isn't below n.
func TestSplitIsTheGreatest(t *testing.T) {
	r := newRand()
	numbers := []int{}
	for n := 2; n < 5000; n++ {
		numbers = append(numbers, n)
	}
	for range 5000 {
		numbers = append(numbers, max(2, int(r.Uint64()>>(1+r.IntN(62)))))
	}
	for _, n := range numbers {
		k := Split(n)
		if bits.OnesCount(uint(k)) != 1 || k < 1 || k >= n || k < n-k {
			t.Errorf("Split(%d): %d", n, k)
		}
	}
}

// P16.2: the root of 2^k hashes and of at most as many more is that of the roots of both parts.
func TestRootOfBothParts(t *testing.T) {
	l := hashes(newRand(), 128)
	for first := 1; first <= 64; first *= 2 {
		for more := 1; more <= first; more++ {
			what := fmt.Sprintf("the root of %d and %d", first, more)
			a, b := Root(l[:first]), Root(l[first:first+more])
			got := Root(l[:first+more])
			same(t, what, got, Node(a, b))
			same(t, what+", as the root of two", got, Root([]api.Hash{a, b}))
			same(t, what+", by the words", got, plainNode(plainRoot(l[:first]), plainRoot(l[first:first+more])))
		}
	}
}

// P16.2: so it is of none but such parts: cut elsewhere, the roots of both make another one.
func TestRootOfOtherParts(t *testing.T) {
	l := hashes(newRand(), 70)
	for n := 2; n <= len(l); n++ {
		for first := 1; first < n; first++ {
			power := bits.OnesCount(uint(first)) == 1
			both := Node(Root(l[:first]), Root(l[first:n]))
			if got := Root(l[:n]) == both; got != (power && n-first <= first) {
				t.Errorf("that the root of %d is that of the first %d and the others is %t", n, first, got)
			}
		}
	}
}

// R5: an entry that is handed in stays as it is, and so does its spare room.
func TestEntriesStay(t *testing.T) {
	for _, n := range entrySizes {
		room := some(newRand(), n+200)
		was := bytes.Clone(room)
		got := Leaf(room[:n])
		if !bytes.Equal(room, was) {
			t.Errorf("an entry of %d bytes, or what stands behind it, was changed", n)
		}
		clear(room)
		same(t, fmt.Sprintf("an entry of %d bytes that was changed behind the call", n), got, plainLeaf(was[:n]))
		same(t, "the entry that it became", Leaf(room[:n]), plainLeaf(make([]byte, n)))
	}
}

// R5: a list that is handed in stays as it is, and so does its spare room; what is done to it behind the call is nothing to the root that was told.
func TestListsStay(t *testing.T) {
	for n := range 66 {
		room := hashes(newRand(), n+70)
		was := slices.Clone(room)
		got := Root(room[:n])
		if !slices.Equal(room, was) {
			t.Errorf("a list of %d hashes, or what stands behind it, was changed", n)
		}
		what := fmt.Sprintf("a list of %d hashes that was changed behind the call", n)
		clear(room)
		same(t, what, got, plainRoot(was[:n]))
		same(t, what+", asked again", Root(room[:n]), plainRoot(make([]api.Hash, n)))
	}
}

// R5: an answer is the caller's: what is done to it is nothing to the list, nor to the next answer.
func TestAnswersAreNew(t *testing.T) {
	for n := range 10 {
		l := hashes(newRand(), n)
		was := slices.Clone(l)
		h := Root(l)
		clear(h[:])
		if !slices.Equal(l, was) {
			t.Errorf("the root of %d is a piece of the list", n)
		}
		same(t, fmt.Sprintf("the root of %d, asked again", n), Root(l), plainRoot(l))
	}
}

// P2: the same calls have the same answers, whatever was asked ahead of them.
func TestSameAnswersAgain(t *testing.T) {
	r := newRand()
	l := hashes(r, 65)
	for n := range len(l) + 1 {
		one := Root(l[:n])
		Root(hashes(r, n))
		Node(l[0], one)
		Leaf(one[:])
		same(t, fmt.Sprintf("the root of %d, asked again", n), Root(l[:n]), one)
	}
}

func BenchmarkRoot(b *testing.B) {
	l := hashes(newRand(), 1<<12)
	for b.Loop() {
		Root(l)
	}
}
