package merkle

import (
	"crypto/sha256"
	"encoding/hex"
	"math/rand/v2"
	"slices"
	"testing"

	"chronicle/api"
)

// ofNothing is the hash of no bytes, in hexadecimal digits.
const ofNothing = "e3b0c44298fc1c149afbf4c8996fb92427ae41e4649b934ca495991b7852b855"

func newRand() *rand.Rand { return rand.New(rand.NewPCG(16, 47)) }

// some answers n bytes that follow no rule.
func some(r *rand.Rand, n int) []byte {
	b := make([]byte, n)
	for i := range b {
		b[i] = byte(r.Uint32())
	}
	return b
}

// hashes answers n hashes that follow no rule.
func hashes(r *rand.Rand, n int) []api.Hash {
	l := make([]api.Hash, n)
	for i := range l {
		l[i] = api.Hash(some(r, len(l[i])))
	}
	return l
}

// fromHex answers the hash of those hexadecimal digits.
func fromHex(t *testing.T, digits string) api.Hash {
	t.Helper()
	b, err := hex.DecodeString(digits)
	if err != nil || len(b) != len(api.Hash{}) {
		t.Fatalf("%q is no hash", digits)
	}
	return api.Hash(b)
}

// same holds a hash to the one that is wanted.
func same(t *testing.T, what string, got, want api.Hash) {
	t.Helper()
	if got != want {
		t.Errorf("%s: the hash is %x, want %x", what, got, want)
	}
}

// differ holds two hashes to being different ones.
func differ(t *testing.T, what string, a, b api.Hash) {
	t.Helper()
	if a == b {
		t.Errorf("%s: both are %x", what, a)
	}
}

// plainLeaf answers the hash that the standard library makes of the text of an entry.
func plainLeaf(b []byte) api.Hash {
	return sha256.Sum256(slices.Concat([]byte{0}, b))
}

// plainNode answers the hash that the standard library makes of the text of two hashes.
func plainNode(a, b api.Hash) api.Hash {
	return sha256.Sum256(slices.Concat([]byte{1}, a[:], b[:]))
}

// plainRoot answers the root as the chapter's words go, the power of two found by doubling.
func plainRoot(l []api.Hash) api.Hash {
	if len(l) == 0 {
		return sha256.Sum256(nil)
	}
	if len(l) == 1 {
		return l[0]
	}
	k := 1
	for k*2 < len(l) {
		k *= 2
	}
	return plainNode(plainRoot(l[:k]), plainRoot(l[k:]))
}

// rowRoot answers the root of one hash or more from the bottom up: pair by pair a row becomes the next one, and a last hash without a fellow goes up as it is.
func rowRoot(l []api.Hash) api.Hash {
	row := slices.Clone(l)
	for len(row) > 1 {
		var next []api.Hash
		for pair := range slices.Chunk(row, 2) {
			if len(pair) == 2 {
				next = append(next, plainNode(pair[0], pair[1]))
			} else {
				next = append(next, pair[0])
			}
		}
		row = next
	}
	return row[0]
}

// stackRoot answers the root of one hash or more, taken in one by one: two parts of one size at the stack's top become one, and at the end all parts do, from the top down.
func stackRoot(l []api.Hash) api.Hash {
	type part struct {
		root api.Hash
		size int
	}
	var stack []part
	join := func() {
		n := len(stack)
		a, b := stack[n-2], stack[n-1]
		stack = append(stack[:n-2], part{plainNode(a.root, b.root), a.size + b.size})
	}
	for _, h := range l {
		stack = append(stack, part{h, 1})
		for n := len(stack); n > 1 && stack[n-2].size == stack[n-1].size; n = len(stack) {
			join()
		}
	}
	for len(stack) > 1 {
		join()
	}
	return stack[0].root
}

// P16.1: the ways in which the tests work roots out have one answer.
func TestPlainWaysAgree(t *testing.T) {
	l := hashes(newRand(), 300)
	for n := 1; n <= len(l); n++ {
		want := plainRoot(l[:n])
		same(t, "row by row", rowRoot(l[:n]), want)
		same(t, "by a stack", stackRoot(l[:n]), want)
	}
}
