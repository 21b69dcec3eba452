package proof

import (
	"fmt"
	"math"
	"math/bits"
	"slices"
	"testing"

	"chronicle/api"
	"chronicle/merkle"
)

// most is up to how many hashes the tests have paths and proofs of all places.
const most = 70

// aboutPowers are numbers of hashes about powers of two.
var aboutPowers = []int{1, 2, 3, 4, 5, 7, 8, 9, 15, 16, 17, 31, 32, 33, 63, 64, 65}

// outside are numbers that are places of no list of the tests, and no numbers of its first ones.
var outside = []int{math.MinInt, math.MinInt + 1, math.MinInt32 - 1, math.MinInt32, -1 << 16, -256, -65, -64, -2, -1, 1 << 16, math.MaxInt32, math.MaxInt32 + 1, math.MaxInt - 1, math.MaxInt}

// pathOf holds the path of the m-th to the one that is wanted.
func pathOf(t *testing.T, l []api.Hash, m int, want []api.Hash) {
	t.Helper()
	got, err := Path(l, m)
	isList(t, fmt.Sprintf("the path of %d of %d", m, len(l)), got, err, want)
}

// proofOf holds the proof of the first m to the one that is wanted.
func proofOf(t *testing.T, l []api.Hash, m int, want []api.Hash) {
	t.Helper()
	got, err := Proof(l, m)
	isList(t, fmt.Sprintf("the proof of the first %d of %d", m, len(l)), got, err, want)
}

// holdAll holds all paths and all proofs of the hashes to those that are worked out otherwise.
func holdAll(t *testing.T, l []api.Hash) {
	t.Helper()
	rows := plainRows(l)
	for m := range l {
		pathOf(t, l, m, rowPath(rows, m))
		proofOf(t, l, m+1, rowProof(rows, m+1))
	}
}

// knownLeaves answers the hashes of the entries whose paths and proofs are known from elsewhere.
func knownLeaves() []api.Hash {
	var l []api.Hash
	for _, entry := range []string{
		"", "\x00", "\x10", "\x20\x21", "\x30\x31", "\x40\x41\x42\x43",
		"\x50\x51\x52\x53\x54\x55\x56\x57", "\x60\x61\x62\x63\x64\x65\x66\x67\x68\x69\x6a\x6b\x6c\x6d\x6e\x6f",
	} {
		l = append(l, merkle.Leaf([]byte(entry)))
	}
	return l
}

// P18.1: paths and proofs that are known from elsewhere.
func TestKnownOnes(t *testing.T) {
	const (
		leaf0    = "6e340b9cffb37a989ca544e6bb780a2c78901d3fb33738768511a30617afa01d"
		leaf1    = "96a296d224f285c67bee93c30f8a309157f0daa35dc5b87e410b78630a09cfc7"
		leaf4    = "bc1a0643b12e4d2d7c77918f44e0f4f79a838b6cf9ec5b5c283e1f4d88599e6b"
		from0to1 = "fac54203e7cc696cf0dfcb42c92a1d9dbaf70ad9e621f4bd8d98662f00e3c125"
		from2to3 = "5f083f0a1a33ca076a95279832580db3e0ef4584bdff1f54c8a360f50de3031e"
		from4to5 = "0ebc5d3437fbe2db158b9f126a1d118e308181031d0a949f8dededebc558ef6a"
		from6to7 = "ca854ea128ed050b41b35ffc1b87b8eb2bde461e9e3b5596ece6b9d5975a0ae0"
		from0to3 = "d37ee418976dd95753c1c73862b9398fa2a2cf9b4ff0fdfe8b30cd95209614b7"
		from4to7 = "6b47aaf29ee3c2af9af889bc1fb9254dabd31177f16232dd6aab035ca39bf6e4"
	)
	l := knownLeaves()
	pathOf(t, l[:1], 0, nil)
	pathOf(t, l, 0, fromHex(t, leaf1, from2to3, from4to7))
	pathOf(t, l, 5, fromHex(t, leaf4, from6to7, from0to3))
	pathOf(t, l[:3], 2, fromHex(t, from0to1))
	pathOf(t, l[:5], 1, fromHex(t, leaf0, from2to3, leaf4))
	proofOf(t, l[:1], 1, nil)
	proofOf(t, l, 1, fromHex(t, leaf1, from2to3, from4to7))
	proofOf(t, l, 6, fromHex(t, from4to5, from6to7, from0to3))
	proofOf(t, l[:5], 2, fromHex(t, from2to3, leaf4))
}

// P18.1: the chapter's example: of two hashes the path of the first one is the second one.
func TestTwo(t *testing.T) {
	r := newRand()
	for range 10 {
		l := hashes(r, 2)
		pathOf(t, l, 0, []api.Hash{l[1]})
		pathOf(t, l, 1, []api.Hash{l[0]})
		proofOf(t, l, 1, []api.Hash{l[1]})
		proofOf(t, l, 2, nil)
	}
}

// P18.1: of one hash the path is none, and so is the proof, whatever the hash is.
func TestOne(t *testing.T) {
	for _, h := range append(hashes(newRand(), 5), api.Hash{}, merkle.Root(nil)) {
		pathOf(t, []api.Hash{h}, 0, nil)
		proofOf(t, []api.Hash{h}, 1, nil)
	}
}

// P18.1, R5: of no hashes, nil or not, there is neither a path nor a proof.
func TestNone(t *testing.T) {
	lists := map[string][]api.Hash{
		"nil":                              nil,
		"no hashes":                        {},
		"no hashes, with room behind them": hashes(newRand(), 3)[:0],
		"no hashes, behind others":         hashes(newRand(), 3)[3:],
	}
	for what, l := range lists {
		for _, m := range append(outside, 0, 1, 2, 3) {
			got, err := Path(l, m)
			isRange(t, fmt.Sprintf("the path of %d of %s", m, what), got, err)
			got, err = Proof(l, m)
			isRange(t, fmt.Sprintf("the proof of the first %d of %s", m, what), got, err)
		}
	}
}

// P18.1: the paths of small trees, written out.
func TestPathsWrittenOut(t *testing.T) {
	l := hashes(newRand(), 7)
	a, b, c, d, e, f, g := l[0], l[1], l[2], l[3], l[4], l[5], l[6]
	ab, cd, ef := plainNode(a, b), plainNode(c, d), plainNode(e, f)
	abcd, efg := plainNode(ab, cd), plainNode(ef, g)
	for n, paths := range map[int][][]api.Hash{
		3: {{b, c}, {a, c}, {ab}},
		4: {{b, cd}, {a, cd}, {d, ab}, {c, ab}},
		5: {{b, cd, e}, {a, cd, e}, {d, ab, e}, {c, ab, e}, {abcd}},
		6: {{b, cd, ef}, {a, cd, ef}, {d, ab, ef}, {c, ab, ef}, {f, abcd}, {e, abcd}},
		7: {{b, cd, efg}, {a, cd, efg}, {d, ab, efg}, {c, ab, efg}, {f, g, abcd}, {e, g, abcd}, {ef, abcd}},
	} {
		for m, want := range paths {
			pathOf(t, l[:n], m, want)
		}
	}
}

// P18.1: the proofs of small trees, written out.
func TestProofsWrittenOut(t *testing.T) {
	l := hashes(newRand(), 8)
	a, b, c, d, e, f, g, h := l[0], l[1], l[2], l[3], l[4], l[5], l[6], l[7]
	ab, cd, ef, gh := plainNode(a, b), plainNode(c, d), plainNode(e, f), plainNode(g, h)
	abcd, efg, efgh := plainNode(ab, cd), plainNode(ef, g), plainNode(ef, gh)
	for n, proofs := range map[int][][]api.Hash{
		3: {{b, c}, {c}, {}},
		4: {{b, cd}, {cd}, {c, d, ab}, {}},
		5: {{b, cd, e}, {cd, e}, {c, d, ab, e}, {e}, {}},
		6: {{b, cd, ef}, {cd, ef}, {c, d, ab, ef}, {ef}, {e, f, abcd}, {}},
		7: {{b, cd, efg}, {cd, efg}, {c, d, ab, efg}, {efg}, {e, f, g, abcd}, {ef, g, abcd}, {}},
		8: {{b, cd, efgh}, {cd, efgh}, {c, d, ab, efgh}, {efgh}, {e, f, gh, abcd}, {ef, gh, abcd}, {g, h, ef, abcd}, {}},
	} {
		for i, want := range proofs {
			proofOf(t, l[:n], i+1, want)
		}
	}
}

// P18.1: all numbers of hashes up to some 70, at all places, and all numbers of first ones.
func TestAllWorkedOutOtherwise(t *testing.T) {
	all := hashes(newRand(), most)
	for n := range len(all) + 1 {
		holdAll(t, all[:n])
	}
}

// P18.1: lists about powers of two, each of hashes of its own, held against layer 16's roots of the spans.
func TestAboutPowers(t *testing.T) {
	r := newRand()
	for _, n := range append(aboutPowers, 127, 128, 129, 255, 256, 257) {
		l := hashes(r, n)
		for m := range n {
			pathOf(t, l, m, rootsOf(l, pathSpans(m, n)))
			proofOf(t, l, m+1, rootsOf(l, proofSpans(m+1, n)))
		}
	}
}

// P18.1: many hashes, at places about powers of two and about the end.
func TestMany(t *testing.T) {
	all := hashes(newRand(), 1<<12+1)
	for _, n := range []int{1000, 1 << 10, 1<<12 - 1, 1 << 12, 1<<12 + 1} {
		l := all[:n]
		rows := plainRows(l)
		for _, m := range []int{0, 1, 2, 3, 254, 255, 256, 257, 511, 512, 513, 700, n/2 - 1, n / 2, n/2 + 1, n - 3, n - 2, n - 1} {
			pathOf(t, l, m, rowPath(rows, m))
			proofOf(t, l, m+1, rowProof(rows, m+1))
		}
	}
}

// P18.1: a path hangs on places alone, not on what the hashes are: like ones, and hashes of noughts.
func TestLikeHashes(t *testing.T) {
	for _, h := range []api.Hash{{}, merkle.Leaf(nil), merkle.Root(nil), {31: 1}} {
		for n := range most + 1 {
			holdAll(t, slices.Repeat([]api.Hash{h}, n))
		}
	}
}

// P18.1: hashes that come again, so that parts of the tree are like others.
func TestHashesThatComeAgain(t *testing.T) {
	few := hashes(newRand(), 5)
	for again := 1; again <= len(few); again++ {
		var l []api.Hash
		for i := range most {
			l = append(l, few[i%again])
		}
		for _, n := range aboutPowers {
			holdAll(t, l[:n])
		}
	}
}

// P18.1: the proof of all is none, and no other proof is.
func TestProofOfAll(t *testing.T) {
	all := hashes(newRand(), most)
	for n := 1; n <= len(all); n++ {
		proofOf(t, all[:n], n, nil)
		for m := 1; m < n; m++ {
			if got, err := Proof(all[:n], m); err != api.OK || len(got) == 0 {
				t.Errorf("the proof of the first %d of %d: %x and the error %d", m, n, got, err)
			}
		}
	}
}

// P18.1: the proof of a power of two that the tree is cut at is the root of the others alone.
func TestProofOfTheFirstPart(t *testing.T) {
	all := hashes(newRand(), 130)
	for n := 2; n <= len(all); n++ {
		k := merkle.Split(n)
		proofOf(t, all[:n], k, []api.Hash{merkle.Root(all[k:n])})
	}
}

// P18.1, R3: places that no hash has: ErrRange, and nothing beside it.
func TestPlacesOutside(t *testing.T) {
	all := hashes(newRand(), most)
	for n := range len(all) + 1 {
		for _, m := range append(outside, -n, -n-1, n, n+1, n+2, 2*n, 2*n+1, n+64) {
			if m >= 0 && m < n {
				continue
			}
			got, err := Path(all[:n], m)
			isRange(t, fmt.Sprintf("the path of %d of %d", m, n), got, err)
		}
	}
}

// P18.1, R3: numbers that the first ones can't have: ErrRange, and nothing beside it.
func TestNumbersOutside(t *testing.T) {
	all := hashes(newRand(), most)
	for n := range len(all) + 1 {
		for _, m := range append(outside, 0, -n, -n-1, n+1, n+2, 2*n+1, 2*n+2, n+64) {
			if m >= 1 && m <= n {
				continue
			}
			got, err := Proof(all[:n], m)
			isRange(t, fmt.Sprintf("the proof of the first %d of %d", m, n), got, err)
		}
	}
}

// P18.1: what stands behind the list's last hash, in its spare room, is none of the list's.
func TestRoomIsNoneOfTheList(t *testing.T) {
	room := hashes(newRand(), most)
	for _, n := range aboutPowers {
		holdAll(t, room[3:3+n])
		got, err := Path(room[:n], n)
		isRange(t, fmt.Sprintf("the path of %d, in the room behind %d", n, n), got, err)
		got, err = Proof(room[:n], n+1)
		isRange(t, fmt.Sprintf("the proof of %d, with the room behind %d", n+1, n), got, err)
	}
}

// P18.1: who has the m-th hash comes by its path to the root of all.
func TestPathLeadsToTheRoot(t *testing.T) {
	all := hashes(newRand(), most)
	for n := 1; n <= len(all); n++ {
		for m := range n {
			list, _ := Path(all[:n], m)
			at, last, root := m, n-1, all[m]
			for last > 0 {
				switch {
				case at%2 == 1:
					root, list = plainNode(list[0], root), list[1:]
				case at < last:
					root, list = plainNode(root, list[0]), list[1:]
				}
				at, last = at/2, last/2
			}
			if root != merkle.Root(all[:n]) || len(list) != 0 {
				t.Errorf("the path of %d of %d leads to %x, and leaves %d hashes", m, n, root, len(list))
			}
		}
	}
}

// P18.1: who has the root of the first m comes by their proof to it once more, and to the root of all.
func TestProofLeadsToBothRoots(t *testing.T) {
	all := hashes(newRand(), most)
	for n := 2; n <= len(all); n++ {
		for m := 1; m < n; m++ {
			list, _ := Proof(all[:n], m)
			at, last := m-1, n-1
			for at%2 == 1 {
				at, last = at/2, last/2
			}
			first := merkle.Root(all[:m])
			if at != 0 {
				first, list = list[0], list[1:]
			}
			root := first
			for last > 0 {
				switch {
				case at%2 == 1:
					first, root, list = plainNode(list[0], first), plainNode(list[0], root), list[1:]
				case at < last:
					root, list = plainNode(root, list[0]), list[1:]
				}
				at, last = at/2, last/2
			}
			if first != merkle.Root(all[:m]) || root != merkle.Root(all[:n]) || len(list) != 0 {
				t.Errorf("the proof of the first %d of %d leads to %x and %x, and leaves %d hashes", m, n, first, root, len(list))
			}
		}
	}
}

// P18.2: a path has no more hashes than the bits of a number one less than there are, and that of the first one has so many; a proof has no more than one more.
func TestNoMoreThanBits(t *testing.T) {
	all := hashes(newRand(), most)
	for n := 1; n <= len(all); n++ {
		bound := bits.Len(uint(n - 1))
		longest, longestProof := 0, 0
		for m := range n {
			l, _ := Path(all[:n], m)
			longest = max(longest, len(l))
			l, _ = Proof(all[:n], m+1)
			longestProof = max(longestProof, len(l))
		}
		if longest != bound {
			t.Errorf("of %d hashes the longest path has %d, want %d", n, longest, bound)
		}
		if longestProof > bound+1 {
			t.Errorf("of %d hashes the longest proof has %d, want no more than %d", n, longestProof, bound+1)
		}
		if l, _ := Path(all[:n], 0); len(l) != bound {
			t.Errorf("of %d hashes the path of the first one has %d, want %d", n, len(l), bound)
		}
	}
}

// P18.2: of 2^k hashes each path has k, and from 4 hashes on the proof of all but the last one has k + 1.
func TestLengthsOfPowers(t *testing.T) {
	all := hashes(newRand(), 1<<10)
	for k := range 11 {
		l := all[:1<<k]
		for _, m := range []int{0, len(l) / 3, len(l) / 2, len(l) - 1} {
			if got, _ := Path(l, m); len(got) != k {
				t.Errorf("the path of %d of %d has %d hashes, want %d", m, len(l), len(got), k)
			}
		}
		if k < 2 {
			continue
		}
		if got, _ := Proof(l, len(l)-1); len(got) != k+1 {
			t.Errorf("the proof of the first %d of %d has %d hashes, want %d", len(l)-1, len(l), len(got), k+1)
		}
	}
}

// calls answers what the package tells of a list: all paths and all proofs.
func calls(l []api.Hash) [][]api.Hash {
	var told [][]api.Hash
	for m := range l {
		list, _ := Path(l, m)
		told = append(told, list)
		list, _ = Proof(l, m+1)
		told = append(told, list)
	}
	return told
}

// sameCalls holds what was told to what is wanted.
func sameCalls(t *testing.T, what string, got, want [][]api.Hash) {
	t.Helper()
	if !slices.EqualFunc(got, want, slices.Equal) {
		t.Errorf("%s: other paths or proofs than ahead of it", what)
	}
}

// wanted answers all paths and all proofs of a list, worked out otherwise.
func wanted(l []api.Hash) [][]api.Hash {
	rows := plainRows(l)
	var want [][]api.Hash
	for m := range l {
		want = append(want, rowPath(rows, m), rowProof(rows, m+1))
	}
	return want
}

// R5: a list that is handed in stays as it is, and so does its spare room, also where the answer is an error.
func TestListsStay(t *testing.T) {
	room := hashes(newRand(), most+70)
	was := slices.Clone(room)
	for n := range most + 1 {
		l := room[:n]
		calls(l)
		for _, m := range []int{-1, 0, n, n + 1} {
			Path(l, m)
			Proof(l, m)
		}
		if !slices.Equal(room, was) {
			t.Fatalf("a list of %d hashes, or what stands behind it, was changed", n)
		}
	}
}

// R5: what is done to the list behind a call is nothing to what was answered, and the list isn't kept.
func TestListsArentKept(t *testing.T) {
	for _, n := range aboutPowers {
		l := hashes(newRand(), n)
		want := wanted(l)
		told := calls(l)
		clear(l)
		sameCalls(t, fmt.Sprintf("a list of %d hashes that was changed behind the calls", n), told, want)
		sameCalls(t, fmt.Sprintf("the %d hashes that it became", n), calls(l), wanted(make([]api.Hash, n)))
	}
}

// R5: what is answered is the caller's: what is done to it, and to the room behind it, is nothing to the list, nor to what is answered elsewhere or later.
func TestAnswersAreNew(t *testing.T) {
	for _, n := range aboutPowers {
		room := hashes(newRand(), n+70)
		was := slices.Clone(room)
		l := room[:n]
		want := wanted(l)
		told := calls(l)
		for i := range told {
			clear(told[i][:cap(told[i])])
			told[i] = append(told[i], api.Hash{1})
			if !slices.Equal(room, was) {
				t.Fatalf("an answer of %d hashes shares memory with the list", n)
			}
			sameCalls(t, fmt.Sprintf("an answer of %d hashes that was changed", n), told[i+1:], want[i+1:])
		}
		sameCalls(t, fmt.Sprintf("the %d hashes, asked again", n), calls(l), want)
	}
}

// P2: the same calls have the same answers, whatever was asked ahead of them.
func TestSameAnswersAgain(t *testing.T) {
	r := newRand()
	for _, n := range aboutPowers {
		l := hashes(r, n)
		told := calls(l)
		calls(hashes(r, n+1))
		Path(l, n)
		Proof(l, 0)
		sameCalls(t, fmt.Sprintf("the %d hashes, asked again", n), calls(l), told)
		sameCalls(t, fmt.Sprintf("a copy of the %d hashes", n), calls(slices.Clone(l)), told)
	}
}

func BenchmarkPath(b *testing.B) {
	l := hashes(newRand(), 1<<12)
	for b.Loop() {
		Path(l, 1000)
	}
}

func BenchmarkProof(b *testing.B) {
	l := hashes(newRand(), 1<<12)
	for b.Loop() {
		Proof(l, 1000)
	}
}
