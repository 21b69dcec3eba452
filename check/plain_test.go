package check

import (
	"crypto/sha256"
	"encoding/hex"
	"math/rand/v2"
	"slices"
	"testing"

	"chronicle/api"
	"chronicle/merkle"
	"chronicle/proof"
)

func newRand() *rand.Rand { return rand.New(rand.NewPCG(19, 56)) }

// hash answers a hash that follows no rule.
func hash(r *rand.Rand) api.Hash {
	var h api.Hash
	for at := range h {
		h[at] = byte(r.Uint32())
	}
	return h
}

// hashes answers n hashes that follow no rule.
func hashes(r *rand.Rand, n int) []api.Hash {
	l := make([]api.Hash, n)
	for i := range l {
		l[i] = hash(r)
	}
	return l
}

// fromHex answers the hashes of those hexadecimal digits.
func fromHex(t *testing.T, digits ...string) []api.Hash {
	t.Helper()
	var l []api.Hash
	for _, d := range digits {
		b, err := hex.DecodeString(d)
		if err != nil || len(b) != len(api.Hash{}) {
			t.Fatalf("%q is no hash", d)
		}
		l = append(l, api.Hash(b))
	}
	return l
}

// plainNode answers the hash that the standard library makes of the text of two hashes.
func plainNode(a, b api.Hash) api.Hash {
	return sha256.Sum256(slices.Concat([]byte{1}, a[:], b[:]))
}

// plainSplit answers the greatest power of two below n, which is 2 at least.
func plainSplit(n int) int {
	k := 1
	for k < n-k {
		k *= 2
	}
	return k
}

// cut answers a list's last hash and the list without it, if it has one.
func cut(l []api.Hash) (x api.Hash, rest []api.Hash, ok bool) {
	if len(l) == 0 {
		return api.Hash{}, nil, false
	}
	return l[len(l)-1], l[:len(l)-1], true
}

// pathLead answers the root that the path leads to from the hash, as the m-th of n, by the chapter's words: from the top down.
func pathLead(m, n int, h api.Hash, path []api.Hash) (api.Hash, bool) {
	if n == 1 {
		return h, len(path) == 0
	}
	x, rest, ok := cut(path)
	if !ok {
		return api.Hash{}, false
	}
	k := plainSplit(n)
	if m < k {
		y, ok := pathLead(m, k, h, rest)
		return plainNode(y, x), ok
	}
	y, ok := pathLead(m-k, n-k, h, rest)
	return plainNode(x, y), ok
}

// proofLead answers the two roots that the proof leads to from the old one, as the first m of n, whole or not, by the chapter's words: from the top down.
func proofLead(m, n int, old api.Hash, proof []api.Hash, whole bool) (first, all api.Hash, ok bool) {
	if m == n {
		if whole {
			return old, old, len(proof) == 0
		}
		if len(proof) != 1 {
			return api.Hash{}, api.Hash{}, false
		}
		return proof[0], proof[0], true
	}
	x, rest, ok := cut(proof)
	if !ok {
		return api.Hash{}, api.Hash{}, false
	}
	k := plainSplit(n)
	if m <= k {
		y, z, ok := proofLead(m, k, old, rest, whole)
		return y, plainNode(z, x), ok
	}
	y, z, ok := proofLead(m-k, n-k, old, rest, false)
	return plainNode(x, y), plainNode(x, z), ok
}

// pathSays answers P19.1 of a path, by the chapter's words.
func pathSays(m, n int, leaf api.Hash, path []api.Hash, root api.Hash) bool {
	if m < 0 || m >= n {
		return false
	}
	got, ok := pathLead(m, n, leaf, path)
	return ok && got == root
}

// proofSays answers P19.1 of a proof, by the chapter's words.
func proofSays(m, n int, old api.Hash, proof []api.Hash, root api.Hash) bool {
	if m < 1 || m > n {
		return false
	}
	first, all, ok := proofLead(m, n, old, proof, true)
	return ok && first == old && all == root
}

// pathLen answers how many hashes a path of the m-th of n has: as often as the tree is cut till the m-th is alone.
func pathLen(m, n int) int {
	count := 0
	for ; n > 1; count++ {
		k := plainSplit(n)
		if m < k {
			n = k
		} else {
			m, n = m-k, n-k
		}
	}
	return count
}

// proofLen answers how many hashes a proof of the first m of n has: as often as the tree is cut till the first m have an end where the part has, and one more, if they don't begin where it does.
func proofLen(m, n int) int {
	count, more := 0, 0
	for ; m < n; count++ {
		k := plainSplit(n)
		if m <= k {
			n = k
		} else {
			m, n, more = m-k, n-k, 1
		}
	}
	return count + more
}

// A path of the tests: of which place, among how many, and from what to what it leads.
type somePath struct {
	m, n int
	leaf api.Hash
	path []api.Hash
	root api.Hash
}

// A proof of the tests.
type someProof struct {
	m, n  int
	old   api.Hash
	proof []api.Hash
	root  api.Hash
}

// ownPath answers a path that was made of any hashes, and led to its root from the top down: of a tree of so many that no list of them could be.
func ownPath(t *testing.T, r *rand.Rand, m, n int) somePath {
	t.Helper()
	p := somePath{m: m, n: n, leaf: hash(r), path: hashes(r, pathLen(m, n))}
	root, ok := pathLead(m, n, p.leaf, p.path)
	if !ok {
		t.Fatalf("a path of %d hashes leads nowhere, as the %d-th of %d", len(p.path), m, n)
	}
	p.root = root
	return p
}

// ownProof answers a proof that was made of any hashes, and led to its roots from the top down.
func ownProof(t *testing.T, r *rand.Rand, m, n int) someProof {
	t.Helper()
	p := someProof{m: m, n: n, old: hash(r), proof: hashes(r, proofLen(m, n))}
	first, all, ok := proofLead(m, n, p.old, p.proof, true)
	if !ok {
		t.Fatalf("a proof of %d hashes leads nowhere, as the first %d of %d", len(p.proof), m, n)
	}
	p.old, p.root = first, all
	return p
}

// A grown is hashes, and the roots of the first of them: roots[n] is that of the first n.
type grown struct{ l, roots []api.Hash }

// grow answers the hashes with their roots.
func grow(l []api.Hash) grown {
	g := grown{l: l}
	for n := range len(l) + 1 {
		g.roots = append(g.roots, merkle.Root(l[:n]))
	}
	return g
}

// toldPath answers the path that layer 18 tells of the m-th of the first n.
func (g grown) toldPath(t *testing.T, m, n int) somePath {
	t.Helper()
	path, err := proof.Path(g.l[:n], m)
	if err != api.OK {
		t.Fatalf("the path of %d of %d: the error %d", m, n, err)
	}
	return somePath{m, n, g.l[m], path, g.roots[n]}
}

// toldProof answers the proof that layer 18 tells of the first m of the first n.
func (g grown) toldProof(t *testing.T, m, n int) someProof {
	t.Helper()
	list, err := proof.Proof(g.l[:n], m)
	if err != api.OK {
		t.Fatalf("the proof of the first %d of %d: the error %d", m, n, err)
	}
	return someProof{m, n, g.roots[m], list, g.roots[n]}
}

// isPath holds what is said of a path to what is wanted, and to the chapter's words.
func isPath(t *testing.T, what string, p somePath, want bool) {
	t.Helper()
	if got := Path(p.m, p.n, p.leaf, p.path, p.root); got != want {
		t.Errorf("%s: the path of %d hashes of %d of %d: %t, want %t", what, len(p.path), p.m, p.n, got, want)
	}
	if says := pathSays(p.m, p.n, p.leaf, p.path, p.root); says != want {
		t.Errorf("%s: the path of %d hashes of %d of %d: by the words %t, want %t", what, len(p.path), p.m, p.n, says, want)
	}
}

// isProof holds what is said of a proof to what is wanted, and to the chapter's words.
func isProof(t *testing.T, what string, p someProof, want bool) {
	t.Helper()
	if got := Proof(p.m, p.n, p.old, p.proof, p.root); got != want {
		t.Errorf("%s: the proof of %d hashes of the first %d of %d: %t, want %t", what, len(p.proof), p.m, p.n, got, want)
	}
	if says := proofSays(p.m, p.n, p.old, p.proof, p.root); says != want {
		t.Errorf("%s: the proof of %d hashes of the first %d of %d: by the words %t, want %t", what, len(p.proof), p.m, p.n, says, want)
	}
}

// P19.1: the ways in which the tests work the words out agree with layer 16's roots of layer 18's lists, and with layer 16's Split.
func TestPlainWaysAgree(t *testing.T) {
	g := grow(hashes(newRand(), most))
	for n := 1; n <= most; n++ {
		for m := range n {
			p, q := g.toldPath(t, m, n), g.toldProof(t, m+1, n)
			if !pathSays(m, n, p.leaf, p.path, p.root) || len(p.path) != pathLen(m, n) {
				t.Errorf("the path of %d of %d isn't right by the words", m, n)
			}
			if !proofSays(m+1, n, q.old, q.proof, q.root) || len(q.proof) != proofLen(m+1, n) {
				t.Errorf("the proof of the first %d of %d isn't right by the words", m+1, n)
			}
		}
	}
	for _, n := range greatNumbers() {
		if got, want := plainSplit(n), merkle.Split(n); got != want {
			t.Errorf("%d is cut at %d, want %d", n, got, want)
		}
	}
}
