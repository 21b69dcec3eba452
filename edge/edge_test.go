package edge

import (
	"encoding/hex"
	"fmt"
	"math/bits"
	"slices"
	"testing"

	"chronicle/api"
	"chronicle/merkle"
)

// most is how many hashes are pushed where a test goes through all numbers of them.
const most = 260

// P17.1: a zero Tree, however it is made, has no hashes.
func TestZeroTree(t *testing.T) {
	var x Tree
	var in struct{ one, two Tree }
	for what, x := range map[string]*Tree{
		"a variable": &x,
		"a literal":  {},
		"new":        new(Tree),
		"a field":    &in.two,
		"of a list":  &make([]Tree, 3)[1],
	} {
		if got := x.Len(); got != 0 {
			t.Errorf("%s: the Len is %d", what, got)
		}
		if got := x.Edge(); len(got) != 0 {
			t.Errorf("%s: the edge is %x", what, got)
		}
		if got := x.Root(); got != merkle.Root(nil) {
			t.Errorf("%s: the Root is %x", what, got)
		}
		h := api.Hash{7}
		x.Push(h)
		has(t, what+", and a hash", x, []api.Hash{h})
	}
}

// P17.1: roots that are known from elsewhere, of the entries that make them.
func TestKnownRoots(t *testing.T) {
	entries := []string{
		"", "\x00", "\x10", "\x20\x21", "\x30\x31", "\x40\x41\x42\x43",
		"\x50\x51\x52\x53\x54\x55\x56\x57", "\x60\x61\x62\x63\x64\x65\x66\x67\x68\x69\x6a\x6b\x6c\x6d\x6e\x6f",
	}
	roots := []string{
		"e3b0c44298fc1c149afbf4c8996fb92427ae41e4649b934ca495991b7852b855",
		"6e340b9cffb37a989ca544e6bb780a2c78901d3fb33738768511a30617afa01d",
		"fac54203e7cc696cf0dfcb42c92a1d9dbaf70ad9e621f4bd8d98662f00e3c125",
		"aeb6bcfe274b70a14fb067a5e5578264db0fa9b51af5e0ba159158f329e06e77",
		"d37ee418976dd95753c1c73862b9398fa2a2cf9b4ff0fdfe8b30cd95209614b7",
		"4e3bbb1f7b478dcfe71fb631631519a3bca12c9aefca1612bfce4c13a86264d4",
		"76e67dadbcdf1e10e1b74ddc608abd2f98dfb16fbce75277b5232a127f2087ef",
		"ddb89be403809e325750d3d263cd78929c2942b7942a34b77e122c9594a74c8c",
		"5dc9da79a70659a9ad559cb701ded9a2ab9d823aad2f4960cfe370eff4604328",
	}
	var x Tree
	for n, want := range roots {
		root := x.Root()
		if got := hex.EncodeToString(root[:]); got != want {
			t.Errorf("the root of %d: %s, want %s", n, got, want)
		}
		if n < len(entries) {
			x.Push(merkle.Leaf([]byte(entries[n])))
		}
	}
}

// P17.1: the edges and roots of the first trees, and of the chapter's 13 hashes, written out.
func TestWrittenOut(t *testing.T) {
	l := hashes(newRand(), 13)
	n := merkle.Node
	two, next := n(l[0], l[1]), n(l[2], l[3])
	four, after := n(two, next), n(n(l[4], l[5]), n(l[6], l[7]))
	eight, last := n(four, after), n(n(l[8], l[9]), n(l[10], l[11]))
	for _, c := range []struct {
		size int
		edge []api.Hash
		root api.Hash
	}{
		{1, []api.Hash{l[0]}, l[0]},
		{2, []api.Hash{two}, two},
		{3, []api.Hash{two, l[2]}, n(two, l[2])},
		{4, []api.Hash{four}, four},
		{5, []api.Hash{four, l[4]}, n(four, l[4])},
		{6, []api.Hash{four, n(l[4], l[5])}, n(four, n(l[4], l[5]))},
		{7, []api.Hash{four, n(l[4], l[5]), l[6]}, n(four, n(n(l[4], l[5]), l[6]))},
		{8, []api.Hash{eight}, eight},
		{9, []api.Hash{eight, l[8]}, n(eight, l[8])},
		{10, []api.Hash{eight, n(l[8], l[9])}, n(eight, n(l[8], l[9]))},
		{11, []api.Hash{eight, n(l[8], l[9]), l[10]}, n(eight, n(n(l[8], l[9]), l[10]))},
		{12, []api.Hash{eight, last}, n(eight, last)},
		{13, []api.Hash{eight, last, l[12]}, n(eight, n(last, l[12]))},
	} {
		x := treeOf(l[:c.size])
		what := fmt.Sprintf("%d hashes", c.size)
		if got := x.Len(); got != c.size {
			t.Errorf("%s: the Len is %d", what, got)
		}
		sameList(t, what, x.Edge(), c.edge)
		if got := x.Root(); got != c.root {
			t.Errorf("%s: the Root is %x, want %x", what, got, c.root)
		}
	}
}

// P17.1: the Len, the Edge and the Root behind each push, held against the chapter's words worked out of all hashes at once.
func TestPushByPush(t *testing.T) {
	var x Tree
	l := hashes(newRand(), most)
	for n, h := range l {
		has(t, fmt.Sprintf("%d pushes", n), &x, l[:n])
		x.Push(h)
	}
	has(t, fmt.Sprintf("%d pushes", len(l)), &x, l)
}

// P17.1: trees of which nothing was asked while they grew.
func TestAskedOnlyAtTheEnd(t *testing.T) {
	l := hashes(newRand(), 65)
	for _, n := range []int{1, 2, 3, 4, 7, 8, 9, 13, 15, 16, 17, 63, 64, 65} {
		what := fmt.Sprintf("%d hashes", n)
		has(t, what, treeOf(l[:n]), l[:n])
		sameList(t, what, treeOf(l[:n]).Edge(), plainEdge(l[:n]))
		if got := treeOf(l[:n]).Root(); got != merkle.Root(l[:n]) {
			t.Errorf("%s: the Root, asked first, is %x", what, got)
		}
	}
}

// P17.1: like hashes, and hashes of noughts, whose parts are told from one another by their sizes alone.
func TestLikeHashes(t *testing.T) {
	for _, h := range []api.Hash{{}, {31: 1}, merkle.Leaf(nil), merkle.Root(nil)} {
		var x Tree
		l := slices.Repeat([]api.Hash{h}, most)
		seen := map[api.Hash]int{}
		for n := 1; n <= most; n++ {
			x.Push(h)
			has(t, fmt.Sprintf("%d hashes %x", n, h[:2]), &x, l[:n])
			if m, ok := seen[x.Root()]; ok {
				t.Errorf("%d and %d hashes %x have one root", m, n, h[:2])
			}
			seen[x.Root()] = n
		}
	}
}

// P17.1: hashes that are those of parts ahead of them, which are parts of one hash all the same.
func TestHashesThatAreRoots(t *testing.T) {
	var x Tree
	var l []api.Hash
	h := api.Hash{1}
	for n := range 70 {
		has(t, fmt.Sprintf("%d hashes", n), &x, l)
		x.Push(h)
		l = append(l, h)
		h = x.Edge()[0]
		if n%3 == 0 {
			h = x.Root()
		}
	}
}

// P17.1: each hash tells, and so does its place.
func TestEachHashTells(t *testing.T) {
	r := newRand()
	for n := 1; n <= 33; n++ {
		l := hashes(r, n)
		was := treeOf(l).Root()
		for i := range l {
			what := fmt.Sprintf("the hash %d of %d", i, n)
			changed := slices.Clone(l)
			changed[i][31] ^= 128
			has(t, what+" changed", treeOf(changed), changed)
			if treeOf(changed).Root() == was {
				t.Errorf("%s changed: the Root is as it was", what)
			}
			swapped := slices.Clone(l)
			swapped[i], swapped[(i+1)%n] = swapped[(i+1)%n], swapped[i]
			has(t, what+" and the next one swapped", treeOf(swapped), swapped)
		}
	}
}

// P17.1: great trees about powers of two.
func TestGreatTrees(t *testing.T) {
	var x Tree
	l := hashes(newRand(), 1<<14+3)
	for n, h := range l {
		if n >= most && bits.Len(uint(n+2)) != bits.Len(uint(n-3)) {
			has(t, fmt.Sprintf("%d hashes", n), &x, l[:n])
		}
		x.Push(h)
	}
	has(t, "all hashes", &x, l)
}

// P17.1: a nil *Tree has no hashes, and Push does nothing to it.
func TestNilTree(t *testing.T) {
	var x *Tree
	for _, h := range []api.Hash{{}, {1}, merkle.Leaf(nil)} {
		has(t, "a nil tree", x, nil)
		x.Push(h)
		if x != nil {
			t.Errorf("a push made a tree of nil")
		}
	}
	has(t, "a nil tree, behind pushes", x, nil)
}

// P17.2: an edge has as many hashes as the number of hashes has ones among its bits.
func TestOnes(t *testing.T) {
	var x Tree
	for n, h := range hashes(newRand(), 5000) {
		ones := 0
		for rest := n; rest > 0; rest /= 2 {
			ones += rest % 2
		}
		if got := len(x.Edge()); got != ones {
			t.Errorf("%d hashes: an edge of %d, want %d", n, got, ones)
		}
		x.Push(h)
	}
}

// P17.2: the chapter's example, the least edges, and the longest ones, written out.
func TestOnesWrittenOut(t *testing.T) {
	for n, want := range map[int]int{
		0: 0, 1: 1, 2: 1, 3: 2, 4: 1, 7: 3, 8: 1, 9: 2, 13: 3, 15: 4, 16: 1, 17: 2, 63: 6, 64: 1, 65: 2, 255: 8, 256: 1, 257: 2,
	} {
		if got := len(treeOf(make([]api.Hash, n)).Edge()); got != want {
			t.Errorf("%d hashes: an edge of %d, want %d", n, got, want)
		}
	}
}

// R5: what is done to an edge that was told, and to its spare room, is nothing to the tree.
func TestEdgeIsTheCallers(t *testing.T) {
	var x Tree
	l := hashes(newRand(), 70)
	for n, h := range l {
		told := x.Edge()
		for i := range told {
			told[i] = api.Hash{0xee}
		}
		spare := append(told, api.Hash{0xdd})
		clear(spare[:cap(spare)])
		has(t, fmt.Sprintf("%d hashes, whose edge was changed", n), &x, l[:n])
		x.Push(h)
		has(t, fmt.Sprintf("%d hashes, changed ahead of the last push", n+1), &x, l[:n+1])
	}
}

// R5: the tree's later pushes, and later edges, are nothing to an edge that was told.
func TestEdgeStays(t *testing.T) {
	var x Tree
	l := hashes(newRand(), 70)
	var told, again [][]api.Hash
	for _, h := range l {
		told = append(told, x.Edge())
		again = append(again, x.Edge())
		x.Push(h)
	}
	for n := range told {
		sameList(t, fmt.Sprintf("the edge of %d, behind later pushes", n), told[n], plainEdge(l[:n]))
		clear(told[n])
		sameList(t, fmt.Sprintf("the other edge of %d", n), again[n], plainEdge(l[:n]))
	}
}

// R5: a hash that is handed in isn't kept: what is done to it behind the push is nothing to the tree.
func TestHashIsNotKept(t *testing.T) {
	var x Tree
	l := hashes(newRand(), 40)
	for n := range l {
		h := l[n]
		x.Push(h)
		clear(h[:])
		has(t, fmt.Sprintf("%d hashes", n+1), &x, l[:n+1])
	}
}

// R7: two trees that are pushed beside each other know nothing of one another.
func TestTwoTrees(t *testing.T) {
	r := newRand()
	var x, y Tree
	var l, m []api.Hash
	for range 300 {
		h := hashes(r, 1)[0]
		if r.IntN(3) > 0 {
			x.Push(h)
			l = append(l, h)
		} else {
			y.Push(h)
			m = append(m, h)
		}
		what := fmt.Sprintf("of trees of %d and %d hashes", len(l), len(m))
		has(t, what+" the first one", &x, l)
		has(t, what+" the second one", &y, m)
	}
}

// R7: a copy of a tree goes its own way, and so does the tree.
func TestCopies(t *testing.T) {
	r := newRand()
	l := hashes(r, 40)
	for n := range len(l) {
		x := *treeOf(l[:n])
		y := x
		m, o := slices.Clone(l[:n]), slices.Clone(l[:n])
		for range 9 {
			pair := hashes(r, 2)
			x.Push(pair[0])
			y.Push(pair[1])
			m, o = append(m, pair[0]), append(o, pair[1])
			has(t, fmt.Sprintf("a tree copied at %d", n), &x, m)
			has(t, fmt.Sprintf("a copy made at %d", n), &y, o)
		}
		x = Tree{}
		has(t, "a tree made zero again", &x, nil)
		has(t, "the copy of a tree made zero again", &y, o)
	}
}

// P2: the same calls have the same answers, and asking changes none.
func TestSameAnswersAgain(t *testing.T) {
	var x, y Tree
	for n, h := range hashes(newRand(), 70) {
		for range 3 {
			x.Len()
			x.Edge()
			x.Root()
		}
		if x.Len() != y.Len() || x.Root() != y.Root() || !slices.Equal(x.Edge(), y.Edge()) {
			t.Errorf("%d hashes: two trees of the same answer otherwise", n)
		}
		x.Push(h)
		y.Push(h)
	}
}

func BenchmarkPush(b *testing.B) {
	var x Tree
	for b.Loop() {
		x.Push(api.Hash{1})
	}
}
