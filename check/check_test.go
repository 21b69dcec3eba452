package check

import (
	"fmt"
	"math"
	"math/rand/v2"
	"slices"
	"testing"

	"chronicle/api"
	"chronicle/merkle"
)

// most is up to how many hashes the tests have paths and proofs of all places.
const most = 70

// aboutPowers are numbers of hashes about powers of two.
var aboutPowers = []int{1, 2, 3, 4, 5, 7, 8, 9, 15, 16, 17, 31, 32, 33, 63, 64, 65}

// below are numbers that are no places, and no numbers of hashes.
var below = []int{math.MinInt, math.MinInt + 1, math.MinInt32 - 1, math.MinInt32, -1 << 16, -65, -64, -3, -2, -1}

// greatNumbers answers numbers of hashes, greater than those of the lists of the tests: about powers of two up to 2^62, about the greatest one, and others between.
func greatNumbers() []int {
	var numbers []int
	for _, bit := range []int{7, 8, 16, 24, 31, 32, 33, 40, 48, 60, 61, 62} {
		for d := -2; d <= 2; d++ {
			numbers = append(numbers, 1<<bit+d)
		}
		numbers = append(numbers, 1<<bit+1<<(bit/2), 1<<bit-1<<(bit/2))
	}
	numbers = append(numbers, 1e6, 1e9+7, 1e18, 0x5555555555555555, 0x2aaaaaaaaaaaaaaa, 0x6666666666666666, 1<<62+1<<61, 1<<62+1<<61+1)
	return append(numbers, math.MaxInt-3, math.MaxInt-2, math.MaxInt-1, math.MaxInt)
}

// placesOf answers places of n hashes: about its ends, about where the tree is cut, about powers of two, and others.
func placesOf(r *rand.Rand, n int) []int {
	k := plainSplit(n)
	places := []int{0, 1, 2, 3, n / 3, n / 2, k - 2, k - 1, k, k + 1, k / 2, k/2 - 1, k + k/2, k + (n-k)/2, n - 4, n - 3, n - 2, n - 1}
	for range 4 {
		places = append(places, r.IntN(n), 1<<r.IntN(62), 1<<r.IntN(62)-1)
	}
	slices.Sort(places)
	return slices.DeleteFunc(slices.Compact(places), func(m int) bool { return m < 0 || m >= n })
}

// flipped answers the hash with one bit of it changed.
func flipped(h api.Hash, bit int) api.Hash {
	h[bit/8] ^= 1 << (bit % 8)
	return h
}

// with answers a copy of the list with h in the i-th place.
func with(l []api.Hash, i int, h api.Hash) []api.Hash {
	l = slices.Clone(l)
	l[i] = h
	return l
}

// A changed is a list that isn't that which it was made of, and what was done.
type changed struct {
	what string
	l    []api.Hash
}

// changes answers lists that are made of l by what makes a right one wrong, if its hashes differ.
func changes(r *rand.Rand, l []api.Hash) []changed {
	var lists []changed
	for i := range len(l) + 1 {
		for _, more := range []api.Hash{{}, hash(r)} {
			lists = append(lists, changed{fmt.Sprintf("a hash more at %d", i), slices.Insert(slices.Clone(l), i, more)})
		}
	}
	for i, h := range l {
		bit := r.IntN(256)
		lists = append(lists,
			changed{fmt.Sprintf("without the hash %d", i), slices.Delete(slices.Clone(l), i, i+1)},
			changed{fmt.Sprintf("with the hash %d twice", i), slices.Insert(slices.Clone(l), i, h)},
			changed{fmt.Sprintf("with another hash %d", i), with(l, i, hash(r))},
			changed{fmt.Sprintf("with the hash %d of noughts", i), with(l, i, api.Hash{})},
			changed{fmt.Sprintf("with the bit %d of the hash %d changed", bit, i), with(l, i, flipped(h, bit))},
		)
		for j := range i {
			lists = append(lists, changed{fmt.Sprintf("with the hashes %d and %d swapped", j, i), with(with(l, i, l[j]), j, h)})
		}
	}
	if len(l) > 0 {
		lists = append(lists, changed{"with no hash", nil}, changed{"twice", slices.Concat(l, l)})
	}
	return lists
}

// otherHashes answers hashes that aren't h.
func otherHashes(r *rand.Rand, h api.Hash) []api.Hash {
	return []api.Hash{{}, hash(r), flipped(h, 0), flipped(h, 255), flipped(h, r.IntN(256))}
}

// wrongPaths holds that a right path is wrong as soon as something of it is changed.
func wrongPaths(t *testing.T, r *rand.Rand, p somePath) {
	t.Helper()
	for _, c := range changes(r, p.path) {
		isPath(t, c.what, somePath{p.m, p.n, p.leaf, c.l, p.root}, false)
	}
	for _, h := range otherHashes(r, p.leaf) {
		isPath(t, "with another leaf", somePath{p.m, p.n, h, p.path, p.root}, false)
	}
	for _, h := range otherHashes(r, p.root) {
		isPath(t, "with another root", somePath{p.m, p.n, p.leaf, p.path, h}, false)
	}
	if p.n > 1 {
		isPath(t, "with leaf and root swapped", somePath{p.m, p.n, p.root, p.path, p.leaf}, false)
	}
}

// wrongProofs holds that a right proof is wrong as soon as something of it is changed.
func wrongProofs(t *testing.T, r *rand.Rand, p someProof) {
	t.Helper()
	for _, c := range changes(r, p.proof) {
		isProof(t, c.what, someProof{p.m, p.n, p.old, c.l, p.root}, false)
	}
	for _, h := range otherHashes(r, p.old) {
		isProof(t, "with another old root", someProof{p.m, p.n, h, p.proof, p.root}, false)
	}
	for _, h := range otherHashes(r, p.root) {
		isProof(t, "with another root", someProof{p.m, p.n, p.old, p.proof, h}, false)
	}
	if p.m < p.n {
		isProof(t, "with both roots swapped", someProof{p.m, p.n, p.root, p.proof, p.old}, false)
		isProof(t, "with the root as the old one too", someProof{p.m, p.n, p.root, p.proof, p.root}, false)
		isProof(t, "with the old root as the root too", someProof{p.m, p.n, p.old, p.proof, p.old}, false)
	}
}

// P19.1: paths and proofs that are known from elsewhere, and the roots that they lead to.
func TestKnownOnes(t *testing.T) {
	const (
		leaf0    = "6e340b9cffb37a989ca544e6bb780a2c78901d3fb33738768511a30617afa01d"
		leaf1    = "96a296d224f285c67bee93c30f8a309157f0daa35dc5b87e410b78630a09cfc7"
		leaf4    = "bc1a0643b12e4d2d7c77918f44e0f4f79a838b6cf9ec5b5c283e1f4d88599e6b"
		from0to1 = "fac54203e7cc696cf0dfcb42c92a1d9dbaf70ad9e621f4bd8d98662f00e3c125"
		from2to3 = "5f083f0a1a33ca076a95279832580db3e0ef4584bdff1f54c8a360f50de3031e"
		from4to5 = "0ebc5d3437fbe2db158b9f126a1d118e308181031d0a949f8dededebc558ef6a"
		from6to7 = "ca854ea128ed050b41b35ffc1b87b8eb2bde461e9e3b5596ece6b9d5975a0ae0"
		from0to3 = "d37ee418976dd95753c1c73862b9398fa2a2cf9b4ff0fdfe8b30cd95209614b7"
		from4to7 = "6b47aaf29ee3c2af9af889bc1fb9254dabd31177f16232dd6aab035ca39bf6e4"
		root3    = "aeb6bcfe274b70a14fb067a5e5578264db0fa9b51af5e0ba159158f329e06e77"
		root5    = "4e3bbb1f7b478dcfe71fb631631519a3bca12c9aefca1612bfce4c13a86264d4"
		root6    = "76e67dadbcdf1e10e1b74ddc608abd2f98dfb16fbce75277b5232a127f2087ef"
		root8    = "5dc9da79a70659a9ad559cb701ded9a2ab9d823aad2f4960cfe370eff4604328"
	)
	r := newRand()
	for _, known := range []struct {
		m, n       int
		leaf, root string
		path       []string
	}{
		{0, 1, leaf0, leaf0, nil},
		{0, 8, leaf0, root8, []string{leaf1, from2to3, from4to7}},
		{1, 8, leaf1, root8, []string{leaf0, from2to3, from4to7}},
		{0, 2, leaf0, from0to1, []string{leaf1}},
		{1, 5, leaf1, root5, []string{leaf0, from2to3, leaf4}},
		{4, 5, leaf4, root5, []string{from0to3}},
	} {
		ends := fromHex(t, known.leaf, known.root)
		p := somePath{known.m, known.n, ends[0], fromHex(t, known.path...), ends[1]}
		isPath(t, "known", p, true)
		wrongPaths(t, r, p)
	}
	for _, known := range []struct {
		m, n      int
		old, root string
		proof     []string
	}{
		{1, 1, leaf0, leaf0, nil},
		{1, 8, leaf0, root8, []string{leaf1, from2to3, from4to7}},
		{6, 8, root6, root8, []string{from4to5, from6to7, from0to3}},
		{2, 5, from0to1, root5, []string{from2to3, leaf4}},
		{4, 5, from0to3, root5, []string{leaf4}},
		{4, 8, from0to3, root8, []string{from4to7}},
		{2, 4, from0to1, from0to3, []string{from2to3}},
		{4, 6, from0to3, root6, []string{from4to5}},
		{8, 8, root8, root8, nil},
		{3, 3, root3, root3, nil},
	} {
		roots := fromHex(t, known.old, known.root)
		p := someProof{known.m, known.n, roots[0], fromHex(t, known.proof...), roots[1]}
		isProof(t, "known", p, true)
		wrongProofs(t, r, p)
	}
}

// P19.1: the chapter's example: a path of no hashes leads from a hash to itself, as the 0-th of 1; and to no other one.
func TestPathOfTheOne(t *testing.T) {
	r := newRand()
	for _, h := range append(hashes(r, 5), api.Hash{}, merkle.Root(nil)) {
		p := somePath{m: 0, n: 1, leaf: h, root: h}
		isPath(t, "of no hashes", p, true)
		for _, other := range []api.Hash{hash(r), flipped(h, 0), flipped(h, 255)} {
			isPath(t, "to another root", somePath{m: 0, n: 1, leaf: h, root: other}, false)
			isPath(t, "from another leaf", somePath{m: 0, n: 1, leaf: other, root: h}, false)
		}
		for _, more := range [][]api.Hash{{h}, {{}}, {h, h}, hashes(r, 1), hashes(r, 64)} {
			isPath(t, "with hashes", somePath{0, 1, h, more, h}, false)
			isPath(t, "with hashes, to what they make", somePath{0, 1, h, more, plainNode(h, more[0])}, false)
			isPath(t, "with hashes, to what they make", somePath{0, 1, h, more, plainNode(more[0], h)}, false)
		}
	}
}

// P19.1: the paths of small trees, written out.
func TestPathsWrittenOut(t *testing.T) {
	r := newRand()
	l := hashes(r, 7)
	a, b, c, d, e, f, g := l[0], l[1], l[2], l[3], l[4], l[5], l[6]
	ab, cd, ef := plainNode(a, b), plainNode(c, d), plainNode(e, f)
	abcd, efg := plainNode(ab, cd), plainNode(ef, g)
	roots := []api.Hash{a, ab, plainNode(ab, c), abcd, plainNode(abcd, e), plainNode(abcd, ef), plainNode(abcd, efg)}
	for n, paths := range map[int][][]api.Hash{
		2: {{b}, {a}},
		3: {{b, c}, {a, c}, {ab}},
		4: {{b, cd}, {a, cd}, {d, ab}, {c, ab}},
		5: {{b, cd, e}, {a, cd, e}, {d, ab, e}, {c, ab, e}, {abcd}},
		6: {{b, cd, ef}, {a, cd, ef}, {d, ab, ef}, {c, ab, ef}, {f, abcd}, {e, abcd}},
		7: {{b, cd, efg}, {a, cd, efg}, {d, ab, efg}, {c, ab, efg}, {f, g, abcd}, {e, g, abcd}, {ef, abcd}},
	} {
		for m, path := range paths {
			p := somePath{m, n, l[m], path, roots[n-1]}
			isPath(t, "written out", p, true)
			wrongPaths(t, r, p)
		}
	}
}

// P19.1: the proofs of small trees, written out.
func TestProofsWrittenOut(t *testing.T) {
	r := newRand()
	l := hashes(r, 8)
	a, b, c, d, e, f, g, h := l[0], l[1], l[2], l[3], l[4], l[5], l[6], l[7]
	ab, cd, ef, gh := plainNode(a, b), plainNode(c, d), plainNode(e, f), plainNode(g, h)
	abcd, efg, efgh := plainNode(ab, cd), plainNode(ef, g), plainNode(ef, gh)
	roots := []api.Hash{a, ab, plainNode(ab, c), abcd, plainNode(abcd, e), plainNode(abcd, ef), plainNode(abcd, efg), plainNode(abcd, efgh)}
	for n, proofs := range map[int][][]api.Hash{
		1: {{}},
		2: {{b}, {}},
		3: {{b, c}, {c}, {}},
		4: {{b, cd}, {cd}, {c, d, ab}, {}},
		5: {{b, cd, e}, {cd, e}, {c, d, ab, e}, {e}, {}},
		6: {{b, cd, ef}, {cd, ef}, {c, d, ab, ef}, {ef}, {e, f, abcd}, {}},
		7: {{b, cd, efg}, {cd, efg}, {c, d, ab, efg}, {efg}, {e, f, g, abcd}, {ef, g, abcd}, {}},
		8: {{b, cd, efgh}, {cd, efgh}, {c, d, ab, efgh}, {efgh}, {e, f, gh, abcd}, {ef, gh, abcd}, {g, h, ef, abcd}, {}},
	} {
		for i, list := range proofs {
			p := someProof{i + 1, n, roots[i], list, roots[n-1]}
			isProof(t, "written out", p, true)
			wrongProofs(t, r, p)
		}
	}
}

// P19.2: each path and each proof that layer 18 tells is right; P19.1: and wrong, as soon as something of it is changed.
func TestAllThatAreTold(t *testing.T) {
	r := newRand()
	g := grow(hashes(r, most))
	for n := 1; n <= most; n++ {
		for m := range n {
			p, q := g.toldPath(t, m, n), g.toldProof(t, m+1, n)
			isPath(t, "as told", p, true)
			isProof(t, "as told", q, true)
			wrongPaths(t, r, p)
			wrongProofs(t, r, q)
		}
	}
}

// P19.2: what layer 18 tells of longer lists, at places about powers of two and about the end.
func TestLongLists(t *testing.T) {
	r := newRand()
	for _, n := range []int{127, 128, 129, 255, 256, 257, 1000, 1 << 10, 1<<11 + 1} {
		g := grown{l: hashes(r, n), roots: make([]api.Hash, n+1)}
		g.roots[n] = merkle.Root(g.l)
		for _, m := range placesOf(r, n) {
			g.roots[m+1] = merkle.Root(g.l[:m+1])
			isPath(t, "as told", g.toldPath(t, m, n), true)
			isProof(t, "as told", g.toldProof(t, m+1, n), true)
		}
	}
}

// P19.2: what is told is right whatever the hashes are: like ones, hashes of noughts, and hashes that come again.
func TestLikeHashes(t *testing.T) {
	few := hashes(newRand(), 3)
	lists := [][]api.Hash{
		slices.Repeat([]api.Hash{{}}, 20),
		slices.Repeat([]api.Hash{merkle.Root(nil)}, 20),
		slices.Repeat(few[:1], 20),
		slices.Repeat(few[:2], 10),
		slices.Repeat(few, 7),
	}
	for _, l := range lists {
		g := grow(l)
		for n := 1; n <= len(l); n++ {
			for m := range n {
				isPath(t, "as told", g.toldPath(t, m, n), true)
				isProof(t, "as told", g.toldProof(t, m+1, n), true)
			}
		}
	}
}

// holdElsewhere holds what is said of a path and of a proof, asked as of any other place and number about, to the chapter's words; it answers how many other ones were right.
func holdElsewhere(t *testing.T, p somePath, q someProof, to int) (paths, proofs int) {
	t.Helper()
	for n := -2; n <= to; n++ {
		for m := -2; m <= n+2; m++ {
			a := somePath{m, n, p.leaf, p.path, p.root}
			says := pathSays(m, n, a.leaf, a.path, a.root)
			isPath(t, fmt.Sprintf("that of %d of %d", p.m, p.n), a, says)
			b := someProof{m, n, q.old, q.proof, q.root}
			leads := proofSays(m, n, b.old, b.proof, b.root)
			isProof(t, fmt.Sprintf("that of the first %d of %d", q.m, q.n), b, leads)
			if says && (m != p.m || n != p.n) {
				paths++
			}
			if leads && (m != q.m || n != q.n) {
				proofs++
			}
		}
	}
	return paths, proofs
}

// P19.1: a right path or proof is right at other places and among other numbers just where it leads there by the words: where the tree is cut alike.
func TestElsewhere(t *testing.T) {
	const to = 18
	g := grow(hashes(newRand(), to))
	paths, proofs := 0, 0
	for n := 1; n <= to; n++ {
		for m := range n {
			p, q := holdElsewhere(t, g.toldPath(t, m, n), g.toldProof(t, m+1, n), to)
			paths, proofs = paths+p, proofs+q
		}
	}
	if paths == 0 || proofs == 0 {
		t.Errorf("%d paths and %d proofs were right elsewhere: the words lead some there", paths, proofs)
	}
}

// P19.1: like hashes lead from more than one place to one root, and swapped they lead where they did; what is said is what the words say.
func TestLikeHashesElsewhere(t *testing.T) {
	const to = 9
	for _, h := range []api.Hash{{}, merkle.Leaf(nil)} {
		g := grow(slices.Repeat([]api.Hash{h}, to))
		for n := 1; n <= to; n++ {
			for m := range n {
				p, q := g.toldPath(t, m, n), g.toldProof(t, m+1, n)
				holdElsewhere(t, p, q, to)
				for _, c := range changes(newRand(), p.path) {
					holdElsewhere(t, somePath{m, n, h, c.l, p.root}, someProof{m + 1, n, q.old, c.l, q.root}, n)
				}
			}
		}
	}
	h := hash(newRand())
	for _, m := range []int{0, 1} {
		isPath(t, "of two like ones", somePath{m, 2, h, []api.Hash{h}, plainNode(h, h)}, true)
	}
}

// P19.1: the words alone lead: what isn't the path of any hashes, but leads, is right: a leaf that is a root, and a shape that two numbers share.
func TestWhatLeadsIsRight(t *testing.T) {
	l := hashes(newRand(), 3)
	a, b, c := l[0], l[1], l[2]
	ab := plainNode(a, b)
	abc := plainNode(ab, c)
	for _, p := range []somePath{
		{0, 3, a, []api.Hash{b, c}, abc},
		{0, 4, a, []api.Hash{b, c}, abc},
		{1, 4, b, []api.Hash{a, c}, abc},
		{0, 2, ab, []api.Hash{c}, abc},
		{2, 3, c, []api.Hash{ab}, abc},
		{4, 5, c, []api.Hash{ab}, abc},
		{1 << 62, 1<<62 + 1, c, []api.Hash{ab}, abc},
	} {
		isPath(t, "that leads", p, true)
	}
	for _, p := range []someProof{
		{2, 3, ab, []api.Hash{c}, abc},
		{2, 4, ab, []api.Hash{c}, abc},
		{4, 5, ab, []api.Hash{c}, abc},
		{4, 8, ab, []api.Hash{c}, abc},
		{1, 2, ab, []api.Hash{c}, abc},
		{1 << 62, 1<<62 + 1, ab, []api.Hash{c}, abc},
		{1 << 62, math.MaxInt, ab, []api.Hash{c}, abc},
		{1, 3, a, []api.Hash{b, c}, abc},
		{1, 4, a, []api.Hash{b, c}, abc},
		{3, 4, plainNode(b, a), []api.Hash{a, c, b}, plainNode(b, plainNode(a, c))},
	} {
		isProof(t, "that leads", p, true)
	}
}

// P19.1: a proof has to lead to both roots, not to one of them.
func TestBothRoots(t *testing.T) {
	r := newRand()
	for n := 2; n <= 40; n++ {
		for m := 1; m < n; m++ {
			p := ownProof(t, r, m, n)
			isProof(t, "of one's own", p, true)
			for i := range p.proof {
				list := with(p.proof, i, hash(r))
				first, all, ok := proofLead(m, n, p.old, list, true)
				if !ok {
					t.Fatalf("the proof of the first %d of %d leads nowhere", m, n)
				}
				isProof(t, "to another root, and that one is asked for", someProof{m, n, first, list, all}, true)
				isProof(t, "to another root", someProof{m, n, first, list, p.root}, first == p.old && all == p.root)
				isProof(t, "to another old root, maybe", someProof{m, n, p.old, list, all}, first == p.old)
			}
		}
	}
}

// P19.1: a proof that has only what lies behind the old root leaves that root to who asks: any hash stands there, and leads to a root of its own.
func TestOldRootIsTheBeginning(t *testing.T) {
	r := newRand()
	for _, n := range []int{2, 3, 4, 5, 8, 9, 33, 64, 1<<40 + 1, 1<<62 + 1, math.MaxInt} {
		for m := 1; m < n && m > 0; m *= 2 {
			p := ownProof(t, r, m, n)
			isProof(t, "of a power of two", p, true)
			other := p
			other.old = hash(r)
			isProof(t, "with another old root", other, false)
			_, other.root, _ = proofLead(m, n, other.old, other.proof, true)
			isProof(t, "with another old root and what it leads to", other, true)
		}
	}
}

// P19.1: great numbers, with paths and proofs of one's own that are led from the top down.
func TestGreatNumbers(t *testing.T) {
	r := newRand()
	for _, n := range greatNumbers() {
		for _, m := range placesOf(r, n) {
			p := ownPath(t, r, m, n)
			isPath(t, "of one's own", p, true)
			p.root = flipped(p.root, r.IntN(256))
			isPath(t, "to a root with a bit changed", p, false)
			q := ownProof(t, r, m+1, n)
			isProof(t, "of one's own", q, true)
			q.root = flipped(q.root, r.IntN(256))
			isProof(t, "to a root with a bit changed", q, false)
			q = ownProof(t, r, m+1, n)
			q.old = flipped(q.old, r.IntN(256))
			isProof(t, "from an old root with a bit changed", q, false)
		}
	}
}

// P19.1: great numbers: a path or a proof of which something is changed is wrong.
func TestGreatNumbersChanged(t *testing.T) {
	r := newRand()
	for _, n := range []int{1<<31 + 1, 1 << 32, 0x5555555555555555, 1<<62 - 1, 1 << 62, 1<<62 + 1, math.MaxInt - 1, math.MaxInt} {
		k := plainSplit(n)
		for _, m := range []int{0, 1, k - 1, k, n - 2, r.IntN(n)} {
			p, q := ownPath(t, r, m, n), ownProof(t, r, m+1, n)
			for _, c := range wrongLengths(r, p.path) {
				isPath(t, "too short or too long", somePath{m, n, p.leaf, c, p.root}, false)
			}
			for _, c := range wrongLengths(r, q.proof) {
				isProof(t, "too short or too long", someProof{m + 1, n, q.old, c, q.root}, false)
			}
			for i := range p.path {
				isPath(t, "with a bit changed", somePath{m, n, p.leaf, with(p.path, i, flipped(p.path[i], r.IntN(256))), p.root}, false)
			}
			for i := range q.proof {
				isProof(t, "with a bit changed", someProof{m + 1, n, q.old, with(q.proof, i, flipped(q.proof[i], r.IntN(256))), q.root}, false)
			}
			for i := range len(p.path) - 1 {
				isPath(t, "with two swapped", somePath{m, n, p.leaf, with(with(p.path, i, p.path[i+1]), i+1, p.path[i]), p.root}, false)
			}
			for i := range len(q.proof) - 1 {
				isProof(t, "with two swapped", someProof{m + 1, n, q.old, with(with(q.proof, i, q.proof[i+1]), i+1, q.proof[i]), q.root}, false)
			}
		}
	}
}

// wrongLengths answers lists with a hash more, and with one fewer, at both ends of l.
func wrongLengths(r *rand.Rand, l []api.Hash) [][]api.Hash {
	lists := [][]api.Hash{slices.Insert(slices.Clone(l), 0, hash(r)), append(slices.Clone(l), hash(r)), append(slices.Clone(l), api.Hash{})}
	if len(l) > 0 {
		lists = append(lists, l[1:], l[:len(l)-1])
	}
	return lists
}

// holdNoneIsRight holds that neither a path nor a proof is right, whatever stands in it.
func holdNoneIsRight(t *testing.T, what string, m, n int, lists [][]api.Hash, ends []api.Hash) {
	t.Helper()
	for _, l := range lists {
		for _, from := range ends {
			for _, to := range ends {
				if Path(m, n, from, l, to) {
					t.Errorf("%s: the path of %d hashes of %d of %d is right", what, len(l), m, n)
				}
				if Proof(m, n, from, l, to) {
					t.Errorf("%s: the proof of %d hashes of the first %d of %d is right", what, len(l), m, n)
				}
			}
		}
	}
}

// P19.1: of numbers of 0 and below, and at places and first numbers that none has, nothing is right: neither nothing at all nor what is right elsewhere.
func TestNothingThere(t *testing.T) {
	r := newRand()
	l := hashes(r, 4)
	root := merkle.Root(l)
	path := somePath{0, 4, l[0], []api.Hash{l[1], merkle.Root(l[2:])}, root}
	isPath(t, "elsewhere", path, true)
	isProof(t, "elsewhere", someProof{1, 4, l[0], path.path, root}, true)
	lists := [][]api.Hash{nil, {}, {l[0]}, path.path, hashes(r, 3), hashes(r, 63), hashes(r, 64)}
	ends := []api.Hash{{}, l[0], root}
	for _, n := range append(below, 0) {
		for _, m := range append(below, 0, 1, 2, 3, 4, n, n-1, n+1, math.MaxInt-1, math.MaxInt) {
			holdNoneIsRight(t, "no number", m, n, lists, ends)
		}
	}
	for _, n := range append(greatNumbers(), 1, 2, 3, 4, 5, 8) {
		for _, m := range append(below, -n) {
			holdNoneIsRight(t, "no place", m, n, lists, ends)
		}
	}
}

// isNoPath holds that nothing is right as a path of a place that isn't there.
func isNoPath(t *testing.T, m int, p somePath) {
	t.Helper()
	isPath(t, fmt.Sprintf("that of %d", p.m), somePath{m, p.n, p.leaf, p.path, p.root}, false)
	isPath(t, "that of one", somePath{m: m, n: p.n, leaf: p.leaf, root: p.leaf}, false)
	isPath(t, "that of one", somePath{m: m, n: p.n, leaf: p.root, root: p.root}, false)
}

// P19.1: places of the number itself and greater ones, with paths that are right elsewhere.
func TestPlacesOutside(t *testing.T) {
	r := newRand()
	for _, n := range append(greatNumbers(), aboutPowers...) {
		for _, m := range []int{0, n / 2, n - 1} {
			p := ownPath(t, r, m, n)
			isPath(t, "of one's own", p, true)
			for _, at := range []int{n, n + 1, n + 2, 2 * n, 2*n - 1, n + 64, math.MaxInt, math.MaxInt - 1, m - n, m + n, -1, -m - 1, -n, math.MinInt, math.MinInt + m} {
				if at < 0 || at >= n {
					isNoPath(t, at, p)
				}
			}
		}
	}
}

// isNoProof holds that nothing is right as a proof of a first number that can't be.
func isNoProof(t *testing.T, m int, p someProof) {
	t.Helper()
	isProof(t, fmt.Sprintf("that of the first %d", p.m), someProof{m, p.n, p.old, p.proof, p.root}, false)
	isProof(t, "that of all", someProof{m: m, n: p.n, old: p.root, root: p.root}, false)
	isProof(t, "of one hash alone", someProof{m, p.n, p.root, []api.Hash{p.root}, p.root}, false)
}

// P19.1: first numbers of 0 and below, of one more than the number, and greater ones, with proofs that are right elsewhere.
func TestNumbersOutside(t *testing.T) {
	r := newRand()
	for _, n := range append(greatNumbers(), aboutPowers...) {
		for _, m := range []int{1, n/2 + 1, n} {
			p := ownProof(t, r, m, n)
			isProof(t, "of one's own", p, true)
			for _, first := range []int{0, n + 1, n + 2, 2 * n, 2*n + 1, n + 64, math.MaxInt, math.MaxInt - 1, m - n, m + n, -1, -m, -n, math.MinInt, math.MinInt + m} {
				if first < 1 || first > n {
					isNoProof(t, first, p)
				}
			}
		}
	}
}

// P19.1: of no hashes there is no proof of the first ones either, and the root of none is no exception.
func TestNoFirstOnes(t *testing.T) {
	none := merkle.Root(nil)
	l := hashes(newRand(), 3)
	for _, n := range []int{0, 1, 2, 3, 64, math.MaxInt} {
		for _, list := range [][]api.Hash{nil, {none}, l, {none, none}} {
			for _, root := range []api.Hash{none, {}, l[0], plainNode(none, none)} {
				isProof(t, "of none", someProof{0, n, none, list, root}, false)
			}
		}
	}
}

// P19.1: the proof of all has no hash, and is right just where the old root is the root; with hashes it is wrong.
func TestProofOfAll(t *testing.T) {
	r := newRand()
	for _, n := range append(greatNumbers(), aboutPowers...) {
		h := hash(r)
		isProof(t, "of all", someProof{m: n, n: n, old: h, root: h}, true)
		isProof(t, "of all, of noughts", someProof{m: n, n: n}, true)
		for _, other := range otherHashes(r, h) {
			isProof(t, "of all, to another root", someProof{m: n, n: n, old: h, root: other}, false)
			isProof(t, "of all, of another old root", someProof{m: n, n: n, old: other, root: h}, false)
		}
		for _, more := range [][]api.Hash{{h}, {{}}, {h, h}, hashes(r, 1), hashes(r, 2), hashes(r, 63)} {
			isProof(t, "of all, with hashes", someProof{n, n, h, more, h}, false)
			isProof(t, "of all, with hashes, to what they make", someProof{n, n, h, more, plainNode(h, more[0])}, false)
			isProof(t, "of all, with hashes, to what they make", someProof{n, n, h, more, plainNode(more[0], h)}, false)
			isProof(t, "of all, with the roots of one hash", someProof{n, n, more[0], more, more[0]}, false)
		}
	}
}

// P19.1: a proof of first ones that aren't all has a hash at least.
func TestProofWithoutHashes(t *testing.T) {
	r := newRand()
	for _, n := range append(greatNumbers(), aboutPowers...) {
		for _, m := range placesOf(r, n) {
			h := hash(r)
			if m > 0 {
				isProof(t, "without hashes", someProof{m: m, n: n, old: h, root: h}, false)
				isProof(t, "without hashes, of noughts", someProof{m: m, n: n}, false)
			}
			if n > 1 {
				isPath(t, "without hashes", somePath{m: m, n: n, leaf: h, root: h}, false)
				isPath(t, "without hashes, of noughts", somePath{m: m, n: n}, false)
			}
		}
	}
}

// R5: no hashes are nil or an empty list, and mean the same, right or wrong.
func TestNilAndEmpty(t *testing.T) {
	r := newRand()
	room := hashes(r, 3)
	h := hash(r)
	for what, list := range map[string][]api.Hash{
		"nil":                              nil,
		"no hashes":                        {},
		"no hashes, with room behind them": room[:0],
		"no hashes, behind others":         room[3:],
	} {
		isPath(t, what, somePath{0, 1, h, list, h}, true)
		isPath(t, what, somePath{0, 1, h, list, room[0]}, false)
		isProof(t, what, someProof{1, 1, h, list, h}, true)
		isProof(t, what, someProof{1, 1, h, list, room[0]}, false)
		for _, n := range []int{2, 3, 4, 5, 8, 9, 1 << 62, math.MaxInt} {
			isProof(t, what, someProof{n, n, h, list, h}, true)
			isProof(t, what, someProof{n, n, h, list, room[0]}, false)
			for _, m := range []int{0, 1, n / 2, n - 1} {
				isPath(t, what, somePath{m, n, h, list, h}, false)
				isPath(t, what, somePath{m, n, h, list, plainNode(h, room[0])}, false)
				isProof(t, what, someProof{m, n, h, list, h}, false)
				isProof(t, what, someProof{m, n, h, list, plainNode(h, room[0])}, false)
			}
		}
	}
}

// R1, P19.1: lists longer than any path or proof end in an answer, and are wrong, also where they begin or end with a right one.
func TestLongerThanAny(t *testing.T) {
	r := newRand()
	for _, n := range []int{1, 2, 3, 8, 1 << 31, 1 << 62, 1<<62 + 1, math.MaxInt - 1, math.MaxInt} {
		for _, m := range []int{0, n / 2, n - 1} {
			p, q := ownPath(t, r, m, n), ownProof(t, r, m+1, n)
			for _, more := range []int{1, 2, 63, 64, 65, 1000, 1 << 16} {
				others := hashes(r, more)
				for _, list := range [][]api.Hash{slices.Concat(p.path, others), slices.Concat(others, p.path), others} {
					if len(list) != len(p.path) && Path(m, n, p.leaf, list, p.root) {
						t.Errorf("a path of %d hashes is right for %d of %d", len(list), m, n)
					}
				}
				for _, list := range [][]api.Hash{slices.Concat(q.proof, others), slices.Concat(others, q.proof), others} {
					if len(list) != len(q.proof) && Proof(m+1, n, q.old, list, q.root) {
						t.Errorf("a proof of %d hashes is right for the first %d of %d", len(list), m+1, n)
					}
				}
			}
		}
	}
}

// P19.1: the longest path has 63 hashes, and the longest proof 64: these are right too.
func TestLongest(t *testing.T) {
	r := newRand()
	p := ownPath(t, r, 0, math.MaxInt)
	if len(p.path) != 63 {
		t.Errorf("the path of 0 of %d has %d hashes, want 63", math.MaxInt, len(p.path))
	}
	isPath(t, "the longest", p, true)
	q := ownProof(t, r, 1<<62-1, math.MaxInt)
	if len(q.proof) != 64 {
		t.Errorf("the proof of the first %d of %d has %d hashes, want 64", 1<<62-1, math.MaxInt, len(q.proof))
	}
	isProof(t, "the longest", q, true)
}

// someNumber answers a number that is small, about a power of two, or any.
func someNumber(r *rand.Rand) int {
	switch r.IntN(4) {
	case 0, 1:
		return r.IntN(40) - 3
	case 2:
		return 1<<r.IntN(63) + r.IntN(5) - 2
	}
	return int(r.Uint64())
}

// P19.1: any places and numbers with lists of any lengths: what is said is what the words say, also of what they lead to.
func TestAnyOfThem(t *testing.T) {
	r := newRand()
	rightPaths, rightProofs := 0, 0
	for range 20000 {
		m, n := someNumber(r), someNumber(r)
		length := r.IntN(8)
		if m >= 0 && m < n && r.IntN(4) > 0 {
			length = pathLen(m, n)
		}
		list := hashes(r, length)
		p := somePath{m, n, hash(r), list, hash(r)}
		if m >= 0 && m < n && r.IntN(8) > 0 {
			p.root, _ = pathLead(m, n, p.leaf, list)
		}
		q := someProof{m, n, p.leaf, list, p.root}
		if m > 0 && m <= n && r.IntN(8) > 0 {
			q.proof = hashes(r, max(0, proofLen(m, n)-r.IntN(8)/7))
			q.old, q.root, _ = proofLead(m, n, q.old, q.proof, true)
		}
		says, leads := pathSays(m, n, p.leaf, p.path, p.root), proofSays(m, n, q.old, q.proof, q.root)
		isPath(t, "any", p, says)
		isProof(t, "any", q, leads)
		if says {
			rightPaths++
		}
		if leads {
			rightProofs++
		}
	}
	if rightPaths < 1000 || rightProofs < 1000 {
		t.Errorf("%d paths and %d proofs were right: too few to tell", rightPaths, rightProofs)
	}
}

// P19.1: what stands behind a list's last hash, in its spare room, is none of the list's.
func TestRoomIsNoneOfTheList(t *testing.T) {
	r := newRand()
	for _, n := range append(aboutPowers, 1<<62+1, math.MaxInt) {
		if n == 1 {
			continue
		}
		for _, m := range []int{0, (n - 1) / 2, n - 2} {
			p, q := ownPath(t, r, m, n), ownProof(t, r, m+1, n)
			isPath(t, "with its last one in the room", somePath{m, n, p.leaf, p.path[:len(p.path)-1], p.root}, false)
			isProof(t, "with its last one in the room", someProof{m + 1, n, q.old, q.proof[:len(q.proof)-1], q.root}, false)
			p.path = slices.Concat(hashes(r, 2), p.path, hashes(r, 3))[2 : 2+len(p.path)]
			q.proof = slices.Concat(hashes(r, 2), q.proof, hashes(r, 3))[2 : 2+len(q.proof)]
			isPath(t, "among other hashes", p, true)
			isProof(t, "among other hashes", q, true)
		}
	}
}

// R5: lists that are handed in stay as they are, and so does their spare room, whether they are right or wrong.
func TestListsStay(t *testing.T) {
	r := newRand()
	g := grow(hashes(r, most))
	for _, n := range aboutPowers {
		for m := range n {
			p, q := g.toldPath(t, m, n), g.toldProof(t, m+1, n)
			room := slices.Concat(p.path, hashes(r, 10))
			was := slices.Clone(room)
			for end := range len(room) + 1 {
				Path(m, n, p.leaf, room[:end], p.root)
				Proof(m+1, n, q.old, room[:end], q.root)
			}
			if !slices.Equal(room, was) {
				t.Fatalf("a path of %d of %d, or what stands behind it, was changed", m, n)
			}
			room = slices.Concat(q.proof, hashes(r, 10))
			was = slices.Clone(room)
			for end := range len(room) + 1 {
				Proof(m+1, n, q.old, room[:end], q.root)
				Proof(m+2, n+1, q.old, room[:end], q.root)
				Path(m, n, q.old, room[:end], q.root)
			}
			if !slices.Equal(room, was) {
				t.Fatalf("a proof of the first %d of %d, or what stands behind it, was changed", m+1, n)
			}
		}
	}
}

// P2, R5: the same calls have the same answers, whatever was asked ahead of them, and lists aren't kept.
func TestSameAnswersAgain(t *testing.T) {
	r := newRand()
	g := grow(hashes(r, most))
	for _, n := range aboutPowers {
		for m := range n {
			p, q := g.toldPath(t, m, n), g.toldProof(t, m+1, n)
			for range 2 {
				isPath(t, "as told", p, true)
				isProof(t, "as told", q, true)
				if len(p.path) == 0 || len(q.proof) == 0 {
					continue
				}
				wrong, wrongProof := slices.Clone(p.path), slices.Clone(q.proof)
				wrong[0], wrongProof[0] = hash(r), hash(r)
				isPath(t, "with another first one", somePath{m, n, p.leaf, wrong, p.root}, false)
				isProof(t, "with another first one", someProof{m + 1, n, q.old, wrongProof, q.root}, false)
				wrong[0], wrongProof[0] = p.path[0], q.proof[0]
				isPath(t, "mended", somePath{m, n, p.leaf, wrong, p.root}, true)
				isProof(t, "mended", someProof{m + 1, n, q.old, wrongProof, q.root}, true)
			}
		}
	}
}

func BenchmarkPath(b *testing.B) {
	r := newRand()
	leaf, list, root := hash(r), hashes(r, 20), hash(r)
	for b.Loop() {
		Path(1000, 1<<20, leaf, list, root)
	}
}

func BenchmarkProof(b *testing.B) {
	r := newRand()
	old, list, root := hash(r), hashes(r, 21), hash(r)
	for b.Loop() {
		Proof(1<<19+1<<18+1, 1<<20, old, list, root)
	}
}
