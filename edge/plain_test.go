package edge

import (
	"math/rand/v2"
	"slices"
	"testing"

	"chronicle/api"
	"chronicle/merkle"
)

func newRand() *rand.Rand { return rand.New(rand.NewPCG(17, 50)) }

// hashes answers n hashes that follow no rule.
func hashes(r *rand.Rand, n int) []api.Hash {
	l := make([]api.Hash, n)
	for i := range l {
		for at := range l[i] {
			l[i][at] = byte(r.Uint32())
		}
	}
	return l
}

// treeOf answers a tree that the hashes were pushed into.
func treeOf(l []api.Hash) *Tree {
	var t Tree
	for _, h := range l {
		t.Push(h)
	}
	return &t
}

// plainSizes answers how many hashes the parts of n have, as the chapter's words go: the greatest part that has a power of two, found by doubling, and then those of the others.
func plainSizes(n int) []int {
	var sizes []int
	for n > 0 {
		k := 1
		for k*2 <= n {
			k *= 2
		}
		sizes = append(sizes, k)
		n -= k
	}
	return sizes
}

// plainEdge answers the edge of all the hashes at once: the roots of its parts by layer 16.
func plainEdge(l []api.Hash) []api.Hash {
	var roots []api.Hash
	for _, k := range plainSizes(len(l)) {
		roots = append(roots, merkle.Root(l[:k]))
		l = l[k:]
	}
	return roots
}

// has holds a tree to have just those hashes.
func has(t *testing.T, what string, x *Tree, l []api.Hash) {
	t.Helper()
	if got := x.Len(); got != len(l) {
		t.Errorf("%s: the Len is %d, want %d", what, got, len(l))
	}
	sameList(t, what, x.Edge(), plainEdge(l))
	if got, want := x.Root(), merkle.Root(l); got != want {
		t.Errorf("%s: the Root is %x, want %x", what, got, want)
	}
}

// sameList holds an edge to the one that is wanted.
func sameList(t *testing.T, what string, got, want []api.Hash) {
	t.Helper()
	if !slices.Equal(got, want) {
		t.Errorf("%s: the edge is %x, want %x", what, got, want)
	}
}

// The parts by which the tests work edges out are those that the chapter tells of 13 hashes, and they are all of n.
func TestPlainSizes(t *testing.T) {
	if got := plainSizes(13); !slices.Equal(got, []int{8, 4, 1}) {
		t.Errorf("13: %d", got)
	}
	for n := range 300 {
		sum := 0
		for _, k := range plainSizes(n) {
			sum += k
		}
		if sum != n {
			t.Errorf("%d: the parts are %d together", n, sum)
		}
	}
}
