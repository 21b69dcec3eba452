package clash

import (
	"bytes"
	"fmt"
	"math"
	"math/rand/v2"
	"slices"
	"testing"

	"chronicle/api"
	"chronicle/merkle"
	"chronicle/sha256"
)

// most is up to how many hashes the tests have paths and proofs of all places.
const most = 70

// some is up to how many hashes the tests go down by themselves.
const some = 20

// aboutPowers are numbers of hashes about powers of two.
var aboutPowers = []int{1, 2, 3, 4, 5, 6, 7, 8, 9, 15, 16, 17, 31, 32, 33}

// below are numbers that are no places, and no first numbers.
var below = []int{math.MinInt, math.MinInt + 1, math.MinInt32 - 1, math.MinInt32, -1 << 16, -65, -64, -3, -2, -1}

// flipped answers the hash with one bit of it changed.
func flipped(h api.Hash, bit int) api.Hash {
	h[bit/8] ^= 1 << (bit % 8)
	return h
}

// with answers a copy of the list with h in the i-th place.
func with(l []api.Hash, i int, h api.Hash) []api.Hash {
	l = slices.Clone(l)
	l[i] = h
	return l
}

// otherHashes answers hashes that aren't h.
func otherHashes(r *rand.Rand, h api.Hash) []api.Hash {
	return []api.Hash{{}, hash(r), flipped(h, 0), flipped(h, 255), flipped(h, r.IntN(256))}
}

// A changed is a list that isn't that which it was made of, and what was done.
type changed struct {
	what string
	l    []api.Hash
}

// changes answers lists that are made of l by what makes a right one wrong, if its hashes differ.
func changes(r *rand.Rand, l []api.Hash) []changed {
	var lists []changed
	for i := range len(l) + 1 {
		lists = append(lists,
			changed{fmt.Sprintf("a hash more at %d", i), slices.Insert(slices.Clone(l), i, hash(r))},
			changed{fmt.Sprintf("a hash of noughts at %d", i), slices.Insert(slices.Clone(l), i, api.Hash{})},
		)
	}
	for i, h := range l {
		bit := r.IntN(256)
		lists = append(lists,
			changed{fmt.Sprintf("without the hash %d", i), slices.Delete(slices.Clone(l), i, i+1)},
			changed{fmt.Sprintf("with the hash %d twice", i), slices.Insert(slices.Clone(l), i, h)},
			changed{fmt.Sprintf("with another hash %d", i), with(l, i, hash(r))},
			changed{fmt.Sprintf("with the bit %d of the hash %d changed", bit, i), with(l, i, flipped(h, bit))},
		)
		if i > 0 {
			lists = append(lists, changed{fmt.Sprintf("with the hashes %d and %d swapped", i-1, i), with(with(l, i, l[i-1]), i-1, h)})
		}
	}
	if len(l) > 0 {
		lists = append(lists, changed{"with no hash", nil}, changed{"twice", slices.Concat(l, l)})
	}
	return lists
}

// P20.1: of what layer 18 tells there are none, at every place and number.
func TestToldOnes(t *testing.T) {
	l := hashes(newRand(), most)
	for n := range most + 1 {
		for m := range n {
			pathNone(t, "as told", toldPath(t, l[:n], m))
			proofNone(t, "as told", toldProof(t, l[:n], m+1))
		}
	}
}

// P20.1: so it is of hashes of entries.
func TestEntries(t *testing.T) {
	var l []api.Hash
	for i := range some {
		l = append(l, merkle.Leaf([]byte{byte(i)}))
		for m := range l {
			pathNone(t, "as told", toldPath(t, l, m))
			proofNone(t, "as told", toldProof(t, l, m+1))
			pathNone(t, "of an entry that isn't there", somePath{l, m, merkle.Leaf([]byte("no")), toldPath(t, l, m).path})
			proofNone(t, "of an entry that isn't there", someProof{l, m + 1, merkle.Leaf([]byte("no")), toldProof(t, l, m+1).proof})
		}
	}
}

// P20.1: of a path or a proof that isn't right there are none, whatever is changed of its hashes.
func TestChangedOnes(t *testing.T) {
	r := newRand()
	l := hashes(r, most)
	for _, n := range aboutPowers {
		for m := range n {
			p, q := toldPath(t, l[:n], m), toldProof(t, l[:n], m+1)
			for _, c := range changes(r, p.path) {
				pathNone(t, c.what, somePath{p.l, p.m, p.leaf, c.l})
				pathNone(t, c.what+", and another leaf", somePath{p.l, p.m, hash(r), c.l})
			}
			for _, c := range changes(r, q.proof) {
				proofNone(t, c.what, someProof{q.l, q.m, q.old, c.l})
				proofNone(t, c.what+", and another old root", someProof{q.l, q.m, hash(r), c.l})
			}
		}
	}
}

// P20.1: of another leaf, or of another old root, the path or the proof isn't right: none.
func TestOtherLeavesAndOldRoots(t *testing.T) {
	r := newRand()
	l := hashes(r, most)
	for _, n := range append(aboutPowers, 63, 64, 65) {
		for m := range n {
			p, q := toldPath(t, l[:n], m), toldProof(t, l[:n], m+1)
			for _, h := range append(otherHashes(r, p.leaf), merkle.Root(p.l), merkle.Root(nil)) {
				pathNone(t, "of another leaf", somePath{p.l, p.m, h, p.path})
			}
			for _, h := range append(otherHashes(r, q.old), merkle.Root(p.l), merkle.Root(nil), l[0]) {
				proofNone(t, "of another old root", someProof{q.l, q.m, h, q.proof})
			}
		}
	}
}

// P20.1: a path at another place, a proof of another first number, and either among another number of hashes, isn't right: none.
func TestElsewhere(t *testing.T) {
	r := newRand()
	l := hashes(r, some+1)
	for n := 1; n <= some; n++ {
		for m := range n {
			p, q := toldPath(t, l[:n], m), toldProof(t, l[:n], m+1)
			for at := -1; at <= n+1; at++ {
				pathNone(t, "at another place", somePath{p.l, at, p.leaf, p.path})
				proofNone(t, "of another first number", someProof{q.l, at, q.old, q.proof})
			}
			for _, other := range [][]api.Hash{l[:n-1], l[:n+1], l[1 : n+1], l[1:n], hashes(r, n), nil} {
				pathNone(t, "of other hashes", somePath{other, m, p.leaf, p.path})
				proofNone(t, "of other hashes", someProof{other, m + 1, q.old, q.proof})
			}
		}
	}
}

// R1, P20.1: places of -1, of the number itself, and greater ones, with what is right elsewhere: none.
func TestPlacesOutside(t *testing.T) {
	l := hashes(newRand(), most)
	for _, n := range append(aboutPowers, 64, most) {
		for _, m := range []int{0, n / 2, n - 1} {
			p := toldPath(t, l[:n], m)
			for _, at := range append(below, n, n+1, n+2, 2*n, 2*n+m, m-n, -m-1, 1<<31, 1<<32+m, 1<<62+m, math.MaxInt-1, math.MaxInt) {
				pathNone(t, "at no place", somePath{p.l, at, p.leaf, p.path})
				pathNone(t, "at no place", somePath{p.l, at, hash(newRand()), p.path})
				pathNone(t, "at no place, of the root", somePath{l: p.l, m: at, leaf: merkle.Root(p.l)})
			}
		}
	}
}

// R1, P20.1: first numbers of 0, of -1, of one more than the number, and greater ones, with what is right elsewhere: none.
func TestFirstNumbersOutside(t *testing.T) {
	l := hashes(newRand(), most)
	for _, n := range append(aboutPowers, 64, most) {
		for _, m := range []int{1, n/2 + 1, n} {
			if m > n {
				continue
			}
			q := toldProof(t, l[:n], m)
			for _, first := range append(below, 0, n+1, n+2, 2*n+1, 2*n+m, m-n-1, -m, 1<<31, 1<<32+m, 1<<62+m, math.MaxInt-1, math.MaxInt) {
				proofNone(t, "of no first number", someProof{q.l, first, q.old, q.proof})
				proofNone(t, "of no first number", someProof{q.l, first, hash(newRand()), q.proof})
				proofNone(t, "of no first number, of the root", someProof{l: q.l, m: first, old: merkle.Root(q.l)})
				proofNone(t, "of no first number, of the root of none", someProof{l: q.l, m: first, old: merkle.Root(nil)})
			}
		}
	}
}

// emptyLists answers lists of no hashes: nil, and such with room and without it.
func emptyLists(r *rand.Rand) [][]api.Hash {
	room := hashes(r, 4)
	return [][]api.Hash{nil, {}, room[:0], room[4:], room[1:1:1]}
}

// R5, P20.1: lists of nil and empty lists: of no hashes there is no place and no first number; of others no path but that of one, and no proof but that of all.
func TestNilAndEmpty(t *testing.T) {
	r := newRand()
	l := hashes(r, some)
	none := merkle.Root(nil)
	for _, empty := range emptyLists(r) {
		for _, m := range append(below, 0, 1, 2, 64, math.MaxInt) {
			for _, h := range []api.Hash{{}, none, l[0]} {
				for _, list := range append(emptyLists(r), l[:1], l[:2], []api.Hash{none}) {
					pathNone(t, "of no hashes", somePath{empty, m, h, list})
					proofNone(t, "of no hashes", someProof{empty, m, h, list})
				}
			}
		}
		for n := 1; n <= some; n++ {
			for m := -1; m <= n+1; m++ {
				for _, h := range []api.Hash{{}, none, l[0], l[n-1], merkle.Root(l[:n])} {
					pathNone(t, "with no hashes", somePath{l[:n], m, h, empty})
					proofNone(t, "with no hashes", someProof{l[:n], m, h, empty})
				}
			}
		}
	}
}

// P20.1: the list of one hash, whose root it is.
func TestOneHash(t *testing.T) {
	r := newRand()
	for _, h := range []api.Hash{{}, hash(r), merkle.Root(nil), merkle.Leaf(nil)} {
		l := []api.Hash{h}
		if p := (somePath{l, 0, h, nil}); !p.right() {
			t.Errorf("the path of one hash isn't right")
		}
		pathNone(t, "of one hash", somePath{l, 0, h, nil})
		proofNone(t, "of one hash", someProof{l, 1, h, nil})
		for _, other := range append(otherHashes(r, h), hash(r)) {
			pathNone(t, "of another one", somePath{l, 0, other, nil})
			proofNone(t, "of another one", someProof{l, 1, other, nil})
			for _, list := range [][]api.Hash{{h}, {other}, {h, other}} {
				pathNone(t, "of one hash, with others", somePath{l, 0, h, list})
				pathNone(t, "of another one, with others", somePath{l, 0, other, list})
				proofNone(t, "of one hash, with others", someProof{l, 1, h, list})
				proofNone(t, "of another one, with others", someProof{l, 1, other, list})
			}
		}
	}
}

// P20.1: the proof of all of them, which is right just of their root, whether their number is a power of two or none.
func TestProofOfAll(t *testing.T) {
	r := newRand()
	l := hashes(r, most)
	for n := 1; n <= most; n++ {
		root := merkle.Root(l[:n])
		if q := (someProof{l[:n], n, root, nil}); !q.right() {
			t.Errorf("the proof of all %d isn't right", n)
		}
		proofNone(t, "of all", someProof{l[:n], n, root, nil})
		for _, h := range otherHashes(r, root) {
			proofNone(t, "of all, of another root", someProof{l[:n], n, h, nil})
			proofNone(t, "of all, with a hash", someProof{l[:n], n, root, []api.Hash{h}})
			proofNone(t, "of all, with a hash", someProof{l[:n], n, h, []api.Hash{h}})
			proofNone(t, "of all, with the root", someProof{l[:n], n, h, []api.Hash{root}})
			proofNone(t, "of all, with two hashes", someProof{l[:n], n, h, []api.Hash{root, h}})
		}
	}
}

// repeated answers lists of n hashes that stand in them twice and more often.
func repeated(r *rand.Rand, n int) [][]api.Hash {
	few := hashes(r, 4)
	var same, turn, halves, mirror, any []api.Hash
	for i := range n {
		same = append(same, few[0])
		turn = append(turn, few[i%2])
		halves = append(halves, few[i%max(1, n/2)%4])
		mirror = append(mirror, few[min(i, n-1-i)%4])
		any = append(any, few[r.IntN(4)])
	}
	return [][]api.Hash{same, turn, halves, mirror, any, make([]api.Hash, n)}
}

// P20.1: hashes that stand in a list twice: a path may be right at several places, and the hash is there at each of them.
func TestHashesTwice(t *testing.T) {
	r := newRand()
	elsewhere := 0
	for n := 1; n <= 17; n++ {
		for _, l := range repeated(r, n) {
			for m := range n {
				p, q := toldPath(t, l, m), toldProof(t, l, m+1)
				for at := range n {
					if at != m && (somePath{l, at, p.leaf, p.path}).right() {
						elsewhere++
					}
					pathNone(t, "with hashes twice", somePath{l, at, p.leaf, p.path})
					proofNone(t, "with hashes twice", someProof{l, at + 1, q.old, q.proof})
				}
				isNone(t, "with hashes twice", answered(alongPath(l, m, p.leaf, p.path)))
				if q.m < n {
					isNone(t, "with hashes twice", answered(alongProof(l, q.m, q.old, q.proof)))
				}
			}
		}
	}
	if elsewhere < 100 {
		t.Errorf("%d paths were right at another place too: too few to tell", elsewhere)
	}
}

// R1, P20.1: paths and proofs longer than any: none.
func TestLongerThanAny(t *testing.T) {
	r := newRand()
	l := hashes(r, 33)
	for _, n := range []int{1, 2, 3, 8, 32, 33} {
		for m := range n {
			p, q := toldPath(t, l[:n], m), toldProof(t, l[:n], m+1)
			for _, more := range []int{1, 2, 63, 64, 65, 300} {
				others := hashes(r, more)
				pathNone(t, "with others behind it", somePath{p.l, m, p.leaf, slices.Concat(p.path, others)})
				pathNone(t, "with others ahead of it", somePath{p.l, m, others[0], slices.Concat(others, p.path)})
				proofNone(t, "with others behind it", someProof{q.l, m + 1, q.old, slices.Concat(q.proof, others)})
				proofNone(t, "with others ahead of it", someProof{q.l, m + 1, others[0], slices.Concat(others, q.proof)})
			}
		}
	}
	long := hashes(r, 1<<16)
	pathNone(t, "long", somePath{l, 1, l[1], long})
	proofNone(t, "long", someProof{l, 1, l[0], long})
}

// P20.1, P20.2: the way down along what layer 18 tells finds no pair that differs, at every place and number.
func TestWayDownToldOnes(t *testing.T) {
	l := hashes(newRand(), most)
	for n := 1; n <= most; n++ {
		for m := range n {
			p := toldPath(t, l[:n], m)
			isNone(t, fmt.Sprintf("%d of %d", m, n), answered(alongPath(p.l, p.m, p.leaf, p.path)))
		}
		for m := 1; m < n; m++ {
			q := toldProof(t, l[:n], m)
			isNone(t, fmt.Sprintf("the first %d of %d", m, n), answered(alongProof(q.l, q.m, q.old, q.proof)))
		}
	}
}

// P20.1: a path that leads from a hash that isn't there to another root differs at the root, on its own side.
func TestWayDownOtherLeaf(t *testing.T) {
	r := newRand()
	l := hashes(r, some)
	for n := 2; n <= some; n++ {
		for m := range n {
			p := toldPath(t, l[:n], m)
			own, lefts := ownPairs(p.l, m), sides(m, n)
			for _, leaf := range append(otherHashes(r, p.leaf), merkle.Root(p.l)) {
				their := lead(leaf, lefts, p.path)[0]
				if (their.left != own[0].left) != lefts[0] || (their.right != own[0].right) == lefts[0] {
					t.Fatalf("the pair at the root differs on the wrong side")
				}
				isTexts(t, fmt.Sprintf("%d of %d", m, n), answered(alongPath(p.l, m, leaf, p.path)), own[0], their)
			}
		}
	}
}

// P20.1: a path with another hash differs at the root: on its own side, or, where the hash is the last one, on the other.
func TestWayDownOtherHash(t *testing.T) {
	r := newRand()
	l := hashes(r, some)
	for n := 2; n <= some; n++ {
		for m := range n {
			p := toldPath(t, l[:n], m)
			own, lefts := ownPairs(p.l, m), sides(m, n)
			for i, h := range p.path {
				path := with(p.path, i, flipped(h, r.IntN(256)))
				for _, leaf := range []api.Hash{p.leaf, hash(r)} {
					their := lead(leaf, lefts, path)[0]
					isTexts(t, fmt.Sprintf("%d of %d", m, n), answered(alongPath(p.l, m, leaf, path)), own[0], their)
				}
			}
		}
	}
}

// P20.1: a proof that leads from an old root that is whole, and isn't that of the first ones, to another root differs at the root.
func TestWayDownOtherOldRoot(t *testing.T) {
	r := newRand()
	l := hashes(r, some)
	for n := 2; n <= some; n++ {
		for m := 1; m < n; m++ {
			q := toldProof(t, l[:n], m)
			own, lefts := ownPairs(q.l, m-1), sides(m-1, n)[:cuts(m, n)]
			for _, old := range append(otherHashes(r, q.old), merkle.Root(q.l)) {
				what, got := fmt.Sprintf("the first %d of %d", m, n), answered(alongProof(q.l, m, old, q.proof))
				if isWhole(m, n) {
					isTexts(t, what, got, own[0], lead(old, lefts, q.proof)[0])
				} else {
					// The proof itself tells the part that is gone up from, and its hashes are l's.
					isNone(t, what, got)
				}
			}
		}
	}
}

// P20.1: a proof with another hash differs at the root, whether the old root is whole or not.
func TestWayDownOtherHashOfProof(t *testing.T) {
	r := newRand()
	l := hashes(r, some)
	for n := 2; n <= some; n++ {
		for m := 1; m < n; m++ {
			q := toldProof(t, l[:n], m)
			own, lefts := ownPairs(q.l, m-1), sides(m-1, n)[:cuts(m, n)]
			for i, h := range q.proof {
				proof := with(q.proof, i, flipped(h, r.IntN(256)))
				for _, old := range []api.Hash{q.old, hash(r)} {
					part, fellows := proofParts(m, n, old, proof)
					their := lead(part, lefts, fellows)[0]
					isTexts(t, fmt.Sprintf("the first %d of %d", m, n), answered(alongProof(q.l, m, old, proof)), own[0], their)
				}
			}
		}
	}
}

// unlike answers pairs that aren't p: with another left hash, another right one, both, and its hashes swapped, if they differ.
func unlike(r *rand.Rand, p pair) map[string]pair {
	pairs := map[string]pair{
		"another left one":      {hash(r), p.right},
		"another right one":     {p.left, hash(r)},
		"another bit on left":   {flipped(p.left, r.IntN(256)), p.right},
		"another bit on right":  {p.left, flipped(p.right, r.IntN(256))},
		"noughts on the left":   {api.Hash{}, p.right},
		"noughts on the right":  {p.left, api.Hash{}},
		"two others":            {hash(r), hash(r)},
		"noughts on both sides": {},
	}
	if p.left != p.right {
		pairs["both swapped"] = pair{p.right, p.left}
		pairs["the left one twice"] = pair{p.left, p.left}
	}
	return pairs
}

// differAt holds that the way down by pairs which are l's but the j-th one from the root tells that one and l's, whatever stands below it.
func differAt(t *testing.T, r *rand.Rand, l []api.Hash, at int, own []pair, j int) {
	t.Helper()
	for what, other := range unlike(r, own[j]) {
		theirs := slices.Clone(own)
		theirs[j] = other
		what = fmt.Sprintf("%s, the %d-th pair down to %d of %d", what, j, at, len(l))
		isTexts(t, what, answered(down(l, at, upwards(theirs))), own[j], other)
		for i := j + 1; i < len(theirs); i++ {
			theirs[i] = pair{hash(r), hash(r)}
		}
		isTexts(t, what+", and others below", answered(down(l, at, upwards(theirs))), own[j], other)
		isTexts(t, what+", and none below", answered(down(l, at, upwards(theirs[:j+1]))), own[j], other)
	}
}

// P20.1: the way down to a hash tells the first pair from the root that differs, wherever it stands, at the root, in the midst and at the bottom, and on whichever side.
func TestFirstPairOfPath(t *testing.T) {
	r := newRand()
	l := hashes(r, some)
	for n := 2; n <= some; n++ {
		for m := range n {
			own := ownPairs(l[:n], m)
			isNone(t, "its own pairs", answered(down(l[:n], m, upwards(own))))
			for j := range own {
				differAt(t, r, l[:n], m, own, j)
			}
		}
	}
}

// P20.1: so does the way down to the part that the first ones end with, of an old root that is whole and of one that isn't.
func TestFirstPairOfProof(t *testing.T) {
	r := newRand()
	l := hashes(r, some)
	whole, others := 0, 0
	for n := 2; n <= some; n++ {
		for m := 1; m < n; m++ {
			own := ownPairs(l[:n], m-1)[:cuts(m, n)]
			isNone(t, "its own pairs", answered(down(l[:n], m-1, upwards(own))))
			for j := range own {
				differAt(t, r, l[:n], m-1, own, j)
			}
			if isWhole(m, n) {
				whole++
			} else {
				others++
			}
		}
	}
	if whole == 0 || others == 0 {
		t.Errorf("%d whole, %d not whole: too few to tell", whole, others)
	}
}

// P20.2: who leads from what isn't there, and had the hash of l's pairs down to the j-th, has two texts of which that hash would be: the ones of the pairs at one place, below one and the same pair.
func TestPairsAtOnePlace(t *testing.T) {
	r := newRand()
	l := hashes(r, some)
	for n := 2; n <= some; n++ {
		for m := range n {
			p := toldPath(t, l[:n], m)
			own, lefts := ownPairs(p.l, m), sides(m, n)
			_, wrong := rise(m, n, hash(r), p.path)
			wrong = upwards(wrong)
			for j := range own {
				theirs := slices.Concat(own[:j], wrong[j:])
				got := answered(down(p.l, m, upwards(theirs)))
				isTexts(t, fmt.Sprintf("%d of %d", m, n), got, own[j], wrong[j])
				above := merkle.Root(p.l)
				if j > 0 && lefts[j-1] {
					above = own[j-1].left
				} else if j > 0 {
					above = own[j-1].right
				}
				if sha256.Sum(got.a) != above {
					t.Errorf("%d of %d: the text of l's %d-th pair hasn't the hash that stands above it", m, n, j)
				}
				if wrong[j].hash() != sha256.Sum(got.b) {
					t.Errorf("%d of %d: the text of the other %d-th pair hasn't its hash", m, n, j)
				}
			}
		}
	}
}

// P20.2: with another hash in any of the path's places, or another leaf, below l's own pairs, the side on which the pair differs is the leaf's, or that of the hash, if it is the pair's own.
func TestSideOfTheDifference(t *testing.T) {
	r := newRand()
	l := hashes(r, some)
	for n := 2; n <= some; n++ {
		for m := range n {
			p := toldPath(t, l[:n], m)
			own, lefts := ownPairs(p.l, m), sides(m, n)
			for i := range p.path {
				_, wrong := rise(m, n, p.leaf, with(p.path, i, hash(r)))
				wrong = upwards(wrong)
				for j := range len(own) - i {
					got := answered(down(p.l, m, upwards(slices.Concat(own[:j], wrong[j:]))))
					isTexts(t, fmt.Sprintf("%d of %d", m, n), got, own[j], wrong[j])
					itself := j == len(own)-1-i
					if left := !bytes.Equal(got.a[1:33], got.b[1:33]); left != (lefts[j] != itself) {
						t.Errorf("%d of %d: the %d-th pair differs on the left: %t", m, n, j, left)
					}
					if right := !bytes.Equal(got.a[33:], got.b[33:]); right != (lefts[j] == itself) {
						t.Errorf("%d of %d: the %d-th pair differs on the right: %t", m, n, j, right)
					}
				}
			}
		}
	}
}

// P20.1: what is gone up by, from a path and a proof, are the pairs of the words, and the root, in trees of any number.
func TestRise(t *testing.T) {
	r := newRand()
	numbers := []int{1 << 20, 1<<31 - 1, 1 << 31, 1<<31 + 1, 1<<62 - 1, 1 << 62, 1<<62 + 1, 0x5555555555555555, math.MaxInt - 1, math.MaxInt}
	for n := 1; n <= most; n++ {
		numbers = append(numbers, n)
	}
	for _, n := range numbers {
		for _, m := range []int{0, 1, n / 3, n / 2, n - 2, n - 1, r.IntN(n)} {
			if m < 0 || m >= n {
				continue
			}
			lefts := sides(m, n)
			for count := range len(lefts) + 1 {
				part, fellows := hash(r), hashes(r, count)
				was := slices.Clone(fellows)
				want := lead(part, lefts[:count], fellows)
				root := part
				if count > 0 {
					root = plainNode(want[0].left, want[0].right)
				}
				got, pairs := rise(m, n, part, fellows)
				if got != root || !slices.Equal(upwards(pairs), want) {
					t.Errorf("%d hashes lead up from %d of %d by other pairs, or to another root", count, m, n)
				}
				if !slices.Equal(fellows, was) {
					t.Errorf("the fellows of %d of %d were changed", m, n)
				}
			}
		}
	}
}

// P20.1: the text of a pair is a byte 1, the left hash and the right one, and has the pair's hash, which is layer 16's.
func TestTextOfPair(t *testing.T) {
	r := newRand()
	full := api.Hash(bytes.Repeat([]byte{255}, 32))
	pairs := []pair{{}, {left: full}, {right: full}, {full, full}}
	for range 100 {
		pairs = append(pairs, pair{hash(r), hash(r)})
	}
	for _, p := range pairs {
		text := p.text()
		if len(text) != 65 || !bytes.Equal(text, plainText(p.left, p.right)) {
			t.Errorf("the text of %x is %x", p, text)
		}
		if got := sha256.Sum(text); got != p.hash() || got != merkle.Node(p.left, p.right) || got != plainNode(p.left, p.right) {
			t.Errorf("the text of %x hasn't its hash", p)
		}
		for what, other := range unlike(r, p) {
			if p != other && (bytes.Equal(text, other.text()) || p.hash() == other.hash()) {
				t.Errorf("%s: the text or the hash is the same", what)
			}
		}
	}
}

// fill writes into all of a text's bytes, and behind them, as far as its room goes.
func fill(text []byte) {
	for i := range text[:cap(text)] {
		text[:cap(text)][i] = 0xEE
	}
}

// R5: the texts are new memory, each its own: what is written into one, or behind it, is in no other, and in nothing that was handed in.
func TestTextsAreNewMemory(t *testing.T) {
	r := newRand()
	l := hashes(r, 9)
	was := slices.Clone(l)
	own := ownPairs(l, 4)
	theirs := upwards(own)
	theirs[1].left = hash(r)
	pairs := slices.Clone(theirs)
	our, their := own[len(own)-2], theirs[1]
	first, second := answered(down(l, 4, theirs)), answered(down(l, 4, theirs))
	fill(first.a)
	isTexts(t, "one text written over", answer{second.a, first.b, true}, our, their)
	fill(first.b)
	isTexts(t, "two texts written over", second, our, their)
	fill(second.b)
	isTexts(t, "three texts written over", answer{second.a, plainText(their.left, their.right), true}, our, their)
	if !slices.Equal(l, was) || !slices.Equal(theirs, pairs) {
		t.Error("what was handed in was changed by way of a text")
	}
	isTexts(t, "again", answered(down(l, 4, theirs)), our, their)
}

// R5: what is handed in stays as it is, and so does its spare room, whether there is something to tell or not.
func TestListsStay(t *testing.T) {
	r := newRand()
	for _, n := range aboutPowers {
		all := hashes(r, n+5)
		whole := slices.Clone(all)
		for m := range n {
			p, q := toldPath(t, all[:n], m), toldProof(t, all[:n], m+1)
			path, list := slices.Concat(p.path, hashes(r, 10)), slices.Concat(q.proof, hashes(r, 10))
			wasPath, wasList := slices.Clone(path), slices.Clone(list)
			for _, more := range []int{0, 1, 10} {
				Path(all[:n], m, p.leaf, path[:len(p.path)+more])
				Path(all[:n], m, q.old, list[:len(q.proof)+more])
				Proof(all[:n], m+1, q.old, list[:len(q.proof)+more])
				Proof(all[:n], m+1, p.leaf, path[:len(p.path)+more])
			}
			alongPath(all[:n], m, hash(r), path[:len(p.path)])
			if m+1 < n {
				alongProof(all[:n], m+1, hash(r), list[:len(q.proof)])
			}
			if !slices.Equal(all, whole) || !slices.Equal(path, wasPath) || !slices.Equal(list, wasList) {
				t.Fatalf("hashes that were handed in, or what stands behind them, were changed at %d of %d", m, n)
			}
		}
	}
}

// P20.1: what stands in the spare room of a list is none of it.
func TestRoomIsNoneOfTheList(t *testing.T) {
	l := hashes(newRand(), 17)
	for n := 2; n < 17; n++ {
		for m := range n {
			p, q := toldPath(t, l[:n], m), toldProof(t, l[:n], m+1)
			pathNone(t, "with its last one in the room", somePath{p.l, m, p.leaf, p.path[:len(p.path)-1]})
			pathNone(t, "with a hash in the room", somePath{l[:m], m, p.leaf, p.path})
			if len(q.proof) > 0 {
				proofNone(t, "with its last one in the room", someProof{q.l, m + 1, q.old, q.proof[:len(q.proof)-1]})
			}
			proofNone(t, "with a hash in the room", someProof{l[:m], m + 1, q.old, q.proof})
		}
	}
}

// P2: the same calls have the same answers, whatever was asked ahead of them.
func TestSameAnswersAgain(t *testing.T) {
	r := newRand()
	l := hashes(r, 17)
	for n := 2; n <= 17; n++ {
		for m := range n {
			p := toldPath(t, l[:n], m)
			own, lefts := ownPairs(p.l, m), sides(m, n)
			wrong := hash(r)
			their := lead(wrong, lefts, p.path)[0]
			for range 2 {
				pathNone(t, "as told", p)
				isTexts(t, "of another leaf", answered(alongPath(p.l, m, wrong, p.path)), own[0], their)
				proofNone(t, "as told", toldProof(t, l[:n], m+1))
				pathNone(t, "of another leaf", somePath{p.l, m, wrong, p.path})
			}
		}
	}
}

// someNumber answers a number that is small, about a power of two, or any.
func someNumber(r *rand.Rand) int {
	switch r.IntN(8) {
	case 0:
		return 1<<r.IntN(63) + r.IntN(5) - 2
	case 1:
		return int(r.Uint64())
	}
	return r.IntN(24) - 3
}

// R1, P20.1: any arguments: no call panics, and none finds anything, as nobody here has two texts with one hash.
func TestAnyOfThem(t *testing.T) {
	r := newRand()
	all := hashes(r, 24)
	rightOnes := 0
	for range 20000 {
		l, m, h := all[:r.IntN(len(all)+1)], someNumber(r), all[r.IntN(len(all))]
		list := hashes(r, r.IntN(7))
		if m >= 0 && m < len(l) && r.IntN(4) > 0 {
			h, list = l[m], toldPath(t, l, m).path
		}
		if m > 0 && m <= len(l) && r.IntN(2) > 0 {
			h, list = merkle.Root(l[:m]), toldProof(t, l, m).proof
		}
		if r.IntN(4) == 0 {
			h = hash(r)
		}
		p, q := somePath{l, m, h, list}, someProof{l, m, h, list}
		pathNone(t, "any", p)
		proofNone(t, "any", q)
		if p.right() || q.right() {
			rightOnes++
		}
	}
	if rightOnes < 1000 {
		t.Errorf("%d were right: too few to tell", rightOnes)
	}
}

// R1: the way down ends also where it is told more pairs than the tree has, and by numbers that no list has.
func TestWayDownEnds(t *testing.T) {
	r := newRand()
	l := hashes(r, 5)
	for _, n := range []int{0, 1, 2, 5} {
		for _, at := range []int{math.MinInt, -1, 0, 1, n, math.MaxInt} {
			for _, count := range []int{0, 1, 3, 100} {
				down(l[:n], at, make([]pair, count))
			}
		}
	}
}

func BenchmarkPath(b *testing.B) {
	l := hashes(newRand(), 1000)
	list := hashes(newRand(), 10)
	for b.Loop() {
		Path(l, 500, l[0], list)
	}
}
