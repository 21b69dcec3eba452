package proof

import (
	"crypto/sha256"
	"encoding/hex"
	"math/rand/v2"
	"slices"
	"testing"

	"chronicle/api"
	"chronicle/merkle"
)

func newRand() *rand.Rand { return rand.New(rand.NewPCG(18, 53)) }

// hashes answers n hashes that follow no rule.
func hashes(r *rand.Rand, n int) []api.Hash {
	l := make([]api.Hash, n)
	for i := range l {
		for at := range l[i] {
			l[i][at] = byte(r.Uint32())
		}
	}
	return l
}

// fromHex answers the hashes of those hexadecimal digits.
func fromHex(t *testing.T, digits ...string) []api.Hash {
	t.Helper()
	var l []api.Hash
	for _, d := range digits {
		b, err := hex.DecodeString(d)
		if err != nil || len(b) != len(api.Hash{}) {
			t.Fatalf("%q is no hash", d)
		}
		l = append(l, api.Hash(b))
	}
	return l
}

// plainNode answers the hash that the standard library makes of the text of two hashes.
func plainNode(a, b api.Hash) api.Hash {
	return sha256.Sum256(slices.Concat([]byte{1}, a[:], b[:]))
}

// plainRows answers the rows of the tree of the hashes, from the bottom up: pair by pair a row becomes the next one, and a last hash without a fellow goes up as it is.
func plainRows(l []api.Hash) [][]api.Hash {
	rows := [][]api.Hash{l}
	for len(l) > 1 {
		var next []api.Hash
		for pair := range slices.Chunk(l, 2) {
			if len(pair) == 2 {
				next = append(next, plainNode(pair[0], pair[1]))
			} else {
				next = append(next, pair[0])
			}
		}
		rows = append(rows, next)
		l = next
	}
	return rows
}

// rowFellows answers the fellows that the at-th of the lowest row, and what is made of it, have from row to row.
func rowFellows(rows [][]api.Hash, at int) []api.Hash {
	var l []api.Hash
	for _, row := range rows {
		if fellow := at ^ 1; fellow < len(row) {
			l = append(l, row[fellow])
		}
		at /= 2
	}
	return l
}

// rowPath answers the path of the m-th of the tree of those rows.
func rowPath(rows [][]api.Hash, m int) []api.Hash {
	return rowFellows(rows, m)
}

// rowProof answers the proof of the first m of the tree of those rows: it is that of the greatest part that ends with the last of them and is whole, and of its fellows; the part itself is left out, where it is all of the first m.
func rowProof(rows [][]api.Hash, m int) []api.Hash {
	if m == len(rows[0]) {
		return nil
	}
	last := m - 1
	for last%2 == 1 {
		rows, last = rows[1:], last/2
	}
	if last == 0 {
		return rowFellows(rows, last)
	}
	return slices.Concat([]api.Hash{rows[0][last]}, rowFellows(rows, last))
}

// A span is the hashes from one place up to another one, which is none of them.
type span struct{ from, to int }

// spanFellows answers the spans beside that of size hashes (a power of two) in which the place at is, and beside the greater ones, among n hashes.
func spanFellows(at, size, n int) []span {
	var spans []span
	for ; size < n; size *= 2 {
		from := at / size * size
		if from/size%2 == 1 {
			spans = append(spans, span{from - size, from})
		} else if from+size < n {
			spans = append(spans, span{from + size, min(from+2*size, n)})
		}
	}
	return spans
}

// pathSpans answers the spans whose roots are the path of the m-th of n.
func pathSpans(m, n int) []span {
	return spanFellows(m, 1, n)
}

// proofSpans answers the spans whose roots are the proof of the first m of n.
func proofSpans(m, n int) []span {
	if m == n {
		return nil
	}
	size := 1
	for m%(2*size) == 0 {
		size *= 2
	}
	fellows := spanFellows(m-1, size, n)
	if m == size {
		return fellows
	}
	return slices.Concat([]span{{m - size, m}}, fellows)
}

// rootsOf answers the roots of the spans by layer 16.
func rootsOf(l []api.Hash, spans []span) []api.Hash {
	var roots []api.Hash
	for _, s := range spans {
		roots = append(roots, merkle.Root(l[s.from:s.to]))
	}
	return roots
}

// isList holds an answer to the list that is wanted, without an error.
func isList(t *testing.T, what string, got []api.Hash, err api.Errno, want []api.Hash) {
	t.Helper()
	if err != api.OK || !slices.Equal(got, want) {
		t.Errorf("%s: %x and the error %d, want %x", what, got, err, want)
	}
}

// isRange holds an answer to ErrRange and nothing beside it.
func isRange(t *testing.T, what string, got []api.Hash, err api.Errno) {
	t.Helper()
	if err != api.ErrRange || len(got) != 0 {
		t.Errorf("%s: %x and the error %d, want nothing and %d", what, got, err, api.ErrRange)
	}
}

// P18.1: the ways in which the tests work paths and proofs out have one answer.
func TestPlainWaysAgree(t *testing.T) {
	all := hashes(newRand(), 140)
	for n := 1; n <= len(all); n++ {
		l := all[:n]
		rows := plainRows(l)
		for m := range n {
			if !slices.Equal(rowPath(rows, m), rootsOf(l, pathSpans(m, n))) {
				t.Errorf("the path of %d of %d: by rows another one than by spans", m, n)
			}
			if !slices.Equal(rowProof(rows, m+1), rootsOf(l, proofSpans(m+1, n))) {
				t.Errorf("the proof of the first %d of %d: by rows another one than by spans", m+1, n)
			}
		}
	}
}
