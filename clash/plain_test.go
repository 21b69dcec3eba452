package clash

import (
	"bytes"
	"crypto/sha256"
	"math/rand/v2"
	"slices"
	"testing"

	"chronicle/api"
	"chronicle/check"
	"chronicle/merkle"
	"chronicle/proof"
)

func newRand() *rand.Rand { return rand.New(rand.NewPCG(20, 59)) }

// hash answers a hash that follows no rule.
func hash(r *rand.Rand) api.Hash {
	var h api.Hash
	for at := range h {
		h[at] = byte(r.Uint32())
	}
	return h
}

// hashes answers n hashes that follow no rule.
func hashes(r *rand.Rand, n int) []api.Hash {
	l := make([]api.Hash, n)
	for i := range l {
		l[i] = hash(r)
	}
	return l
}

// plainText answers the text of two hashes.
func plainText(a, b api.Hash) []byte {
	text := []byte{1}
	text = append(text, a[:]...)
	return append(text, b[:]...)
}

// plainNode answers the hash that the standard library makes of the text of two hashes.
func plainNode(a, b api.Hash) api.Hash {
	return sha256.Sum256(plainText(a, b))
}

// plainSplit answers the greatest power of two below n, which is 2 at least.
func plainSplit(n int) int {
	k := 1
	for k < n-k {
		k *= 2
	}
	return k
}

// plainRoot answers the root of the hashes, of which there is one at least: row by row two of them become one, and a last one without a fellow goes up as it is.
func plainRoot(l []api.Hash) api.Hash {
	for len(l) > 1 {
		var next []api.Hash
		for two := range slices.Chunk(l, 2) {
			if len(two) == 2 {
				next = append(next, plainNode(two[0], two[1]))
			} else {
				next = append(next, two[0])
			}
		}
		l = next
	}
	return l[0]
}

// ownPairs answers the pairs of the tree of l from its root down to the at-th hash.
func ownPairs(l []api.Hash, at int) []pair {
	if len(l) == 1 {
		return nil
	}
	k := plainSplit(len(l))
	top := pair{plainRoot(l[:k]), plainRoot(l[k:])}
	if at < k {
		return append([]pair{top}, ownPairs(l[:k], at)...)
	}
	return append([]pair{top}, ownPairs(l[k:], at-k)...)
}

// sides answers on which side the part with the at-th hash is of each pair from the root of n hashes down: whether it is the left one.
func sides(at, n int) []bool {
	var l []bool
	for n > 1 {
		k := plainSplit(n)
		l = append(l, at < k)
		if at < k {
			n = k
		} else {
			at, n = at-k, n-k
		}
	}
	return l
}

// cuts answers how often the tree of n hashes is cut, till the first m have their end where the part has that is left.
func cuts(m, n int) int {
	count := 0
	for ; m < n; count++ {
		k := plainSplit(n)
		if m <= k {
			n = k
		} else {
			m, n = m-k, n-k
		}
	}
	return count
}

// isWhole tells whether the first m of n hashes are a part of the tree themselves.
func isWhole(m, n int) bool {
	for m < n {
		n = plainSplit(n)
	}
	return m == n
}

// lead answers the pairs, from the root down, that the fellows lead up by from a part that is on those sides: it goes up from the bottom.
func lead(part api.Hash, lefts []bool, fellows []api.Hash) []pair {
	var pairs []pair
	for i, fellow := range fellows {
		p := pair{fellow, part}
		if lefts[len(fellows)-1-i] {
			p = pair{part, fellow}
		}
		pairs = append([]pair{p}, pairs...)
		part = plainNode(p.left, p.right)
	}
	return pairs
}

// proofParts answers the part that a proof of the first m of n begins with, and its fellows.
func proofParts(m, n int, old api.Hash, proof []api.Hash) (api.Hash, []api.Hash) {
	if isWhole(m, n) {
		return old, proof
	}
	return proof[0], proof[1:]
}

// A path of the tests: of which hash, as the how-manieth of l.
type somePath struct {
	l    []api.Hash
	m    int
	leaf api.Hash
	path []api.Hash
}

// A proof of the tests.
type someProof struct {
	l     []api.Hash
	m     int
	old   api.Hash
	proof []api.Hash
}

// toldPath answers the path that layer 18 tells of the m-th of l.
func toldPath(t *testing.T, l []api.Hash, m int) somePath {
	t.Helper()
	path, err := proof.Path(l, m)
	if err != api.OK {
		t.Fatalf("the path of %d of %d: the error %d", m, len(l), err)
	}
	return somePath{l, m, l[m], path}
}

// toldProof answers the proof that layer 18 tells of the first m of l.
func toldProof(t *testing.T, l []api.Hash, m int) someProof {
	t.Helper()
	list, err := proof.Proof(l, m)
	if err != api.OK {
		t.Fatalf("the proof of the first %d of %d: the error %d", m, len(l), err)
	}
	return someProof{l, m, merkle.Root(l[:m]), list}
}

// right tells whether the path is right.
func (p somePath) right() bool {
	return check.Path(p.m, len(p.l), p.leaf, p.path, merkle.Root(p.l))
}

// right tells whether the proof is right.
func (p someProof) right() bool {
	return check.Proof(p.m, len(p.l), p.old, p.proof, merkle.Root(p.l))
}

// pathNone holds that of a path none, none, and false are told.
func pathNone(t *testing.T, what string, p somePath) {
	t.Helper()
	a, b, ok := Path(p.l, p.m, p.leaf, p.path)
	if len(a) != 0 || len(b) != 0 || ok {
		t.Errorf("%s: the path of %d hashes of %d of %d: %d bytes, %d bytes, %t, want none", what, len(p.path), p.m, len(p.l), len(a), len(b), ok)
	}
}

// proofNone holds that of a proof none, none, and false are told.
func proofNone(t *testing.T, what string, p someProof) {
	t.Helper()
	a, b, ok := Proof(p.l, p.m, p.old, p.proof)
	if len(a) != 0 || len(b) != 0 || ok {
		t.Errorf("%s: the proof of %d hashes of the first %d of %d: %d bytes, %d bytes, %t, want none", what, len(p.proof), p.m, len(p.l), len(a), len(b), ok)
	}
}

// An answer is what a way down tells.
type answer struct {
	a, b []byte
	ok   bool
}

func answered(a, b []byte, ok bool) answer { return answer{a, b, ok} }

// isNone holds that a way down tells none, none, and false.
func isNone(t *testing.T, what string, got answer) {
	t.Helper()
	if len(got.a) != 0 || len(got.b) != 0 || got.ok {
		t.Errorf("%s: %x, %x, %t, want none", what, got.a, got.b, got.ok)
	}
}

// isTexts holds that a way down tells the texts of both pairs, and that they differ.
func isTexts(t *testing.T, what string, got answer, our, their pair) {
	t.Helper()
	if our == their {
		t.Fatalf("%s: the pairs are the same", what)
	}
	if !got.ok || !bytes.Equal(got.a, plainText(our.left, our.right)) || !bytes.Equal(got.b, plainText(their.left, their.right)) {
		t.Errorf("%s: %x, %x, %t, want the texts of %x and %x", what, got.a, got.b, got.ok, our, their)
	}
	if bytes.Equal(got.a, got.b) {
		t.Errorf("%s: the texts are the same: %x", what, got.a)
	}
}

// upwards answers the pairs from the bottom up, which stand from the root down.
func upwards(pairs []pair) []pair {
	up := slices.Clone(pairs)
	slices.Reverse(up)
	return up
}

// P20.1: the ways in which the tests work the words out agree with layers 16 and 18.
func TestPlainWaysAgree(t *testing.T) {
	l := hashes(newRand(), most)
	for n := 1; n <= most; n++ {
		root := merkle.Root(l[:n])
		if plainRoot(l[:n]) != root {
			t.Errorf("the root of %d isn't that of layer 16", n)
		}
		if n > 1 && plainSplit(n) != merkle.Split(n) {
			t.Errorf("%d is cut at %d", n, plainSplit(n))
		}
		for m := range n {
			p, q := toldPath(t, l[:n], m), toldProof(t, l[:n], m+1)
			if !p.right() || !q.right() {
				t.Errorf("what is told of %d of %d isn't right", m, n)
			}
			own, lefts := ownPairs(l[:n], m), sides(m, n)
			if len(own) != len(lefts) || !slices.Equal(own, lead(p.leaf, lefts, p.path)) {
				t.Errorf("the path of %d of %d doesn't go by the tree's own pairs", m, n)
			}
			part, fellows := proofParts(m+1, n, q.old, q.proof)
			if len(fellows) != cuts(m+1, n) || !slices.Equal(own[:len(fellows)], lead(part, lefts[:len(fellows)], fellows)) {
				t.Errorf("the proof of the first %d of %d doesn't go by the tree's own pairs", m+1, n)
			}
			if n > 1 && plainNode(own[0].left, own[0].right) != root {
				t.Errorf("the first pair of %d of %d isn't the root's", m, n)
			}
		}
	}
}
