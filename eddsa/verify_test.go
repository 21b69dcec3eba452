package eddsa

import (
	"bytes"
	"fmt"
	"math/big"
	"slices"
	"testing"
)

// accepted fails, unless Verify takes the signature for right, as the chapter's words do.
func accepted(t *testing.T, what string, public, message, signature []byte) {
	t.Helper()
	if !plainVerify(public, message, signature) {
		t.Fatalf("%s: the test's own signature %x isn't right", what, signature)
	}
	if !Verify(public, message, signature) {
		t.Errorf("%s: %x is refused", what, signature)
	}
}

// refused fails, unless Verify refuses the signature.
func refused(t *testing.T, what string, public, message, signature []byte) {
	t.Helper()
	if Verify(public, message, signature) {
		t.Errorf("%s: %x is taken for right", what, signature)
	}
}

// judged holds Verify to the chapter's words and to the standard library, and counts what is right.
func judged(t *testing.T, what string, public, message, signature []byte, counts map[bool]int) {
	t.Helper()
	want := plainVerify(public, message, signature)
	if got := Verify(public, message, signature); got != want {
		t.Errorf("%s: %x of the key %x and the message %x: Verify is %v", what, signature, public, message, got)
	}
	if standardVerify(public, message, signature) != want {
		t.Errorf("%s: %x of the key %x and the message %x: the standard library says otherwise", what, signature, public, message)
	}
	counts[want]++
}

// bothKinds fails, unless there were so many right ones at least, and as many others.
func bothKinds(t *testing.T, counts map[bool]int, least int) {
	t.Helper()
	if counts[true] < least || counts[false] < least {
		t.Errorf("%d are right, and %d aren't: the test says little", counts[true], counts[false])
	}
}

// signed answers a public key, a message, and its signature.
func signed() (public, message, signature []byte) {
	seed, message := seeds()[0], []byte("what was said")
	return publicOf(seed), message, Sign(seed, message)
}

// numbered answers the message of that number.
func numbered(i int) []byte {
	return fmt.Appendf(nil, "message %d", i)
}

// P12.1: a signature is of one message alone: each bit counts, and so does how many bytes there are.
func TestOtherMessages(t *testing.T) {
	public, message, signature := signed()
	accepted(t, "its own message", public, message, signature)
	for i := range len(message) * 8 {
		other := slices.Clone(message)
		other[i/8] ^= 1 << (i % 8)
		refused(t, fmt.Sprintf("the bit %d of the message otherwise", i), public, other, signature)
	}
	refused(t, "no message", public, nil, signature)
	refused(t, "a byte less", public, message[:len(message)-1], signature)
	refused(t, "a byte more", public, append(slices.Clone(message), 0), signature)
	refused(t, "a byte more ahead", public, append([]byte{0}, message...), signature)
	refused(t, "another message", public, []byte("what was not said"), signature)
}

// P12.1: a signature is of one key alone: each bit counts.
func TestOtherKeys(t *testing.T) {
	public, message, signature := signed()
	for i, seed := range seeds() {
		if Verify(publicOf(seed), message, signature) != (i == 0) {
			t.Errorf("the seed %x: Verify is %v", seed, i != 0)
		}
		if i != 0 {
			refused(t, "the signature by another key", public, message, Sign(seed, message))
		}
	}
	for i := range len(public) * 8 {
		other := slices.Clone(public)
		other[i/8] ^= 1 << (i % 8)
		refused(t, fmt.Sprintf("the bit %d of the key otherwise", i), other, message, signature)
	}
	for i, small := range smallPoints() {
		q, _ := plainPoint(public)
		refused(t, fmt.Sprintf("the small point %d as key", i), small.bytes(), message, signature)
		if i > 0 {
			refused(t, fmt.Sprintf("the key and the small point %d", i), q.plus(small).bytes(), message, signature)
		}
	}
}

// P12.1: each bit of a signature counts, and each byte of it may be any other.
func TestOtherSignatures(t *testing.T) {
	public, message, signature := signed()
	for i := range signature {
		for bit := range 8 {
			other := slices.Clone(signature)
			other[i] ^= 1 << bit
			refused(t, fmt.Sprintf("the bit %d of the byte %d otherwise", bit, i), public, message, other)
		}
		for _, d := range []byte{3, 127, 255} {
			other := slices.Clone(signature)
			other[i] += d
			refused(t, fmt.Sprintf("the byte %d with %d more", i, d), public, message, other)
		}
	}
	first, second := signature[:32], signature[32:]
	refused(t, "both halves in each other's place", public, message, slices.Concat(second, first))
	refused(t, "the first half twice", public, message, slices.Concat(first, first))
	refused(t, "the second half twice", public, message, slices.Concat(second, second))
	refused(t, "L less S", public, message, pair(first, new(big.Int).Sub(bigL, fromLittle(second))))
	turned := slices.Clone(second)
	slices.Reverse(turned)
	refused(t, "S with the most significant byte first", public, message, slices.Concat(first, turned))
}

// P12.1: S and L, or a multiple of L, more isn't right, though the equation holds with it.
func TestMoreThanL(t *testing.T) {
	for _, seed := range seeds() {
		public := publicOf(seed)
		for _, message := range messages()[:5] {
			signature := Sign(seed, message)
			s := fromLittle(signature[32:])
			made := 0
			for s.Add(s, bigL); s.BitLen() <= 256; s.Add(s, bigL) {
				made++
				refused(t, fmt.Sprintf("S and %d L", made), public, message, pair(signature[:32], s))
			}
			if made < 14 {
				t.Fatalf("just %d multiples of L fit in", made)
			}
		}
	}
}

// edgeS are numbers at the edges of what S may be.
func edgeS() []*big.Int {
	return []*big.Int{
		new(big.Int), big.NewInt(1), big.NewInt(2), big.NewInt(8), power(64), power(251), off(power(252), -1), power(252), off(power(252), 1),
		off(bigL, -2), off(bigL, -1), bigL, off(bigL, 1), off(bigL, 2), power(253), new(big.Int).Lsh(bigL, 3),
		off(power(255), -20), off(power(255), -19), off(power(255), -1), power(255), off(power(256), -2), off(power(256), -1),
	}
}

// P12.1: an S at an edge isn't right with another's R.
func TestSAtTheEdges(t *testing.T) {
	public, message, signature := signed()
	for _, s := range edgeS() {
		refused(t, fmt.Sprintf("S is %x", s), public, message, pair(signature[:32], s))
		refused(t, fmt.Sprintf("S is %x, R its multiple", s), public, message, pair(base.times(s).bytes(), s))
	}
}

// P12.1: with the neutral point as key, S and R are right if R is S times B: of an S below L, and of none at L or above.
func TestSWithTheNeutralKey(t *testing.T) {
	counts := map[bool]int{}
	for _, s := range edgeS() {
		for _, message := range [][]byte{nil, {0}, []byte("message")} {
			signature := pair(base.times(s).bytes(), s)
			what := fmt.Sprintf("S is %x", s)
			if s.Cmp(bigL) < 0 {
				accepted(t, what, neutral.bytes(), message, signature)
			} else {
				refused(t, what, neutral.bytes(), message, signature)
			}
			judged(t, what, neutral.bytes(), message, signature, counts)
			judged(t, what+" and R the base point", neutral.bytes(), message, pair(base.bytes(), s), counts)
		}
	}
	bothKinds(t, counts, 30)
}

// P12.1: keys and Rs of small order, with an S of 0: right is what the equation says, point by point.
func TestSmallOrder(t *testing.T) {
	points := smallPoints()
	counts := map[bool]int{}
	for i, q := range points {
		for j, r := range points {
			for m := range 3 {
				judged(t, fmt.Sprintf("the small points %d and %d", i, j), q.bytes(), numbered(m), pair(r.bytes(), new(big.Int)), counts)
			}
		}
	}
	bothKinds(t, counts, 12)
	accepted(t, "both neutral, S 0", neutral.bytes(), nil, pair(neutral.bytes(), new(big.Int)))
	refused(t, "both neutral, S 1", neutral.bytes(), nil, pair(neutral.bytes(), big.NewInt(1)))
	refused(t, "both neutral, S L", neutral.bytes(), nil, pair(neutral.bytes(), bigL))
}

// P12.1: a point of small order that is added to R, or to the key, counts: eight times the equation wouldn't tell.
func TestMixedOrder(t *testing.T) {
	r, points := newRand(), smallPoints()
	counts := map[bool]int{}
	for i, small := range points {
		for j, other := range points {
			a, b := someBelow(r), someBelow(r)
			public := base.times(a).plus(small).bytes()
			first := base.times(b).plus(other).bytes()
			message := numbered(r.IntN(1000))
			judged(t, fmt.Sprintf("the small points %d and %d", i, j), public, message, signWith(a, b, first, public, message), counts)
		}
	}
	bothKinds(t, counts, 4)
	public, message, signature := signed()
	first, _ := plainPoint(signature[:32])
	for i, small := range points[1:] {
		moved := first.plus(small).bytes()
		refused(t, fmt.Sprintf("R and the small point %d", i+1), public, message, slices.Concat(moved, signature[32:]))
	}
}

// P12.1: k is taken modulo L ahead of the multiple: of a key whose order isn't L the multiple by the whole number is another.
func TestKModuloL(t *testing.T) {
	r, small := newRand(), smallPoints()[1]
	made := map[bool]int{}
	for i := 0; made[true] < 4 || made[false] < 4; i++ {
		a, b, message := someBelow(r), someBelow(r), numbered(i)
		public, first := base.times(a).plus(small).bytes(), base.times(b).bytes()
		reduced, all := plainNumber(first, public, message), wholeHash(first, public, message)
		right := new(big.Int).And(reduced, big.NewInt(7)).Sign() == 0
		if wouldBe := new(big.Int).And(all, big.NewInt(7)).Sign() == 0; right == wouldBe {
			continue
		}
		made[right]++
		signature := signWith(a, b, first, public, message)
		if right {
			accepted(t, "a k that is modulo L a multiple of 8", public, message, signature)
		} else {
			refused(t, "a k that is a multiple of 8, but not modulo L", public, message, signature)
		}
	}
}

// P12.1: a signature is right with each nonce, not only with those that Sign takes.
func TestOtherNonces(t *testing.T) {
	r := newRand()
	nonces := []*big.Int{new(big.Int), big.NewInt(1), big.NewInt(2), off(bigL, -1)}
	for range 30 {
		nonces = append(nonces, someBelow(r))
	}
	for _, b := range nonces {
		a, message := someBelow(r), someBytes(r, r.IntN(200))
		public, first := base.times(a).bytes(), base.times(b).bytes()
		accepted(t, fmt.Sprintf("the nonce %x", b), public, message, signWith(a, b, first, public, message))
	}
}

// P12.1: keys at the edges are right too: those of the numbers 0, 1, 2 and L - 1.
func TestKeysAtTheEdges(t *testing.T) {
	r := newRand()
	for _, a := range []*big.Int{new(big.Int), big.NewInt(1), big.NewInt(2), off(bigL, -1)} {
		public := base.times(a).bytes()
		b, message := someBelow(r), someBytes(r, 50)
		signature := signWith(a, b, base.times(b).bytes(), public, message)
		accepted(t, fmt.Sprintf("the number %x", a), public, message, signature)
		signature[32] ^= 1
		refused(t, fmt.Sprintf("the number %x, another S", a), public, message, signature)
	}
}

// noPoints are 32 bytes that are no point's: without an X, with a number at p or above, or with an odd 0.
func noPoints(t *testing.T) map[string][]byte {
	t.Helper()
	all := map[string][]byte{
		"Y 2":            rawPoint(big.NewInt(2), false),
		"Y 2, odd":       rawPoint(big.NewInt(2), true),
		"Y 7":            rawPoint(big.NewInt(7), false),
		"Y 1, odd":       rawPoint(big.NewInt(1), true),
		"Y p - 1, odd":   rawPoint(off(bigP, -1), true),
		"32 bytes 255":   bytes.Repeat([]byte{255}, 32),
		"Y 2^255 - 1":    rawPoint(off(power(255), -1), false),
		"the neutral, 1": append(make([]byte, 31), 1),
	}
	for d := range int64(19) {
		all[fmt.Sprintf("Y p + %d", d)] = rawPoint(off(bigP, d), false)
		all[fmt.Sprintf("Y p + %d, odd", d)] = rawPoint(off(bigP, d), true)
	}
	for name, b := range all {
		if _, ok := plainPoint(b); ok {
			t.Fatalf("%s: the test's own bytes are a point's", name)
		}
	}
	return all
}

// P12.1: bytes that are no point's make nothing right, as key, as R, and as both.
func TestNoPoints(t *testing.T) {
	public, message, signature := signed()
	for name, b := range noPoints(t) {
		refused(t, name+" as key", b, message, signature)
		refused(t, name+" as R", public, message, slices.Concat(b, signature[32:]))
		refused(t, name+" as both", b, message, slices.Concat(b, signature[32:]))
		for _, s := range []*big.Int{new(big.Int), big.NewInt(1), off(bigL, -1)} {
			first := base.times(s).bytes()
			refused(t, name+" as key, R a multiple", b, message, pair(first, s))
			refused(t, name+" as R, the key neutral", neutral.bytes(), message, pair(b, s))
			refused(t, name+" as R, the key the base point", base.bytes(), message, pair(b, s))
			refused(t, name+" as both, with an S", b, message, pair(b, s))
		}
	}
}

// smallLoose are bytes that are no point's, but of a point of small order, were they read more loosely.
func smallLoose(t *testing.T) map[string][]byte {
	t.Helper()
	all := map[string][]byte{}
	for name, b := range noPoints(t) {
		if p, ok := loosePoint(b); ok && p.times(big.NewInt(8)).same(neutral) {
			all[name] = b
		}
	}
	if len(all) < 6 {
		t.Fatalf("just %d of the bytes would be a small point's", len(all))
	}
	return all
}

// P12.1: a key whose number is at p or above, or an odd 0, isn't right even where the equation would hold of its point.
func TestLooseKeys(t *testing.T) {
	r := newRand()
	for name, public := range smallLoose(t) {
		q, _ := loosePoint(public)
		for i, made := 0, 0; made < 3; i++ {
			s, message := someBelow(r), numbered(i)
			first := base.times(s).bytes()
			if !q.times(plainNumber(first, public, message)).same(neutral) {
				continue
			}
			made++
			refused(t, name, public, message, pair(first, s))
		}
	}
}

// P12.1: so it is with an R.
func TestLooseR(t *testing.T) {
	points := smallPoints()
	for name, first := range smallLoose(t) {
		r, _ := loosePoint(first)
		for i, made := 0, 0; made < 3; i++ {
			q, message := points[i%8], numbered(i)
			public := q.bytes()
			if !r.plus(q.times(plainNumber(first, public, message))).same(neutral) {
				continue
			}
			made++
			refused(t, name, public, message, pair(first, new(big.Int)))
		}
	}
}

// P12.1: keys of another number of bytes are none, be they cut, or grown by noughts.
func TestLengthsOfKeys(t *testing.T) {
	public, message, signature := signed()
	right := pair(neutral.bytes(), new(big.Int))
	accepted(t, "the neutral key", neutral.bytes(), message, right)
	for _, c := range []struct{ key, signature []byte }{{public, signature}, {neutral.bytes(), right}} {
		grown := append(slices.Clone(c.key), make([]byte, 70)...)
		for n := range grown {
			if n != 32 {
				refused(t, fmt.Sprintf("%d bytes of a key and noughts", n), grown[:n], message, c.signature)
			}
		}
		refused(t, "nil", nil, message, c.signature)
		refused(t, "a nought ahead", append([]byte{0}, c.key...), message, c.signature)
		refused(t, "without the first byte", c.key[1:], message, c.signature)
		refused(t, "the key twice", slices.Concat(c.key, c.key), message, c.signature)
	}
}

// P12.1: signatures of another number of bytes are none, be they cut, or grown by noughts.
func TestLengthsOfSignatures(t *testing.T) {
	public, message, signature := signed()
	right := pair(neutral.bytes(), new(big.Int))
	for _, c := range []struct{ key, signature []byte }{{public, signature}, {neutral.bytes(), right}} {
		grown := append(slices.Clone(c.signature), make([]byte, 70)...)
		for n := range grown {
			if n != 64 {
				refused(t, fmt.Sprintf("%d bytes of a signature and noughts", n), c.key, message, grown[:n])
			}
		}
		refused(t, "nil", c.key, message, nil)
		refused(t, "a nought ahead", c.key, message, append([]byte{0}, c.signature...))
		refused(t, "without the first byte", c.key, message, c.signature[1:])
		refused(t, "R alone", c.key, message, c.signature[:32])
		refused(t, "S alone", c.key, message, c.signature[32:])
		refused(t, "the signature twice", c.key, message, slices.Concat(c.signature, c.signature))
		refused(t, "the signature and the message", c.key, message, slices.Concat(c.signature, message))
	}
}

// P12.1, R1: bytes that follow no rule, long ones among them, are no keys and no signatures, and nothing panics.
func TestBytesWithoutRule(t *testing.T) {
	public, message, signature := signed()
	r := newRand()
	for i := range 200 {
		junk := someBytes(r, i)
		refused(t, "a key without rule", junk, message, signature)
		refused(t, "a signature without rule", public, message, junk)
		refused(t, "all without rule", junk, junk, junk)
		refused(t, "32 and 64 bytes without rule", someBytes(r, 32), junk, someBytes(r, 64))
	}
	long := someBytes(r, 1<<20)
	refused(t, "a long key", long, message, signature)
	refused(t, "a long signature", public, message, long)
	refused(t, "a long message", public, long, signature)
	refused(t, "all long", long, long, long)
	refused(t, "all nil", nil, nil, nil)
	refused(t, "a long one that begins as a signature", public, message, slices.Concat(signature, long))
	refused(t, "a long one that begins as a key", slices.Concat(public, long), message, signature)
	refused(t, "all 255", bytes.Repeat([]byte{255}, 32), nil, bytes.Repeat([]byte{255}, 64))
	// Noughts are the bytes of a point of the order 4, and so may be right.
	counts := map[bool]int{}
	for i := range 16 {
		judged(t, "all noughts", make([]byte, 32), make([]byte, i), make([]byte, 64), counts)
	}
	bothKinds(t, counts, 1)
}

// P12.1: pairs of a point and a number that follow no rule are what the chapter's words and the standard library say.
func TestPairsWithoutRule(t *testing.T) {
	r := newRand()
	counts := map[bool]int{}
	for range 30 {
		public, message := base.times(someBelow(r)).bytes(), someBytes(r, r.IntN(200))
		signature := pair(base.times(someBelow(r)).bytes(), someBelow(r))
		judged(t, "without rule", public, message, signature, counts)
	}
}
