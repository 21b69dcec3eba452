package ecdsa

import (
	"bytes"
	"fmt"
	"math/big"
	"slices"
	"testing"
)

// accepted fails, unless Verify takes the signature for right, as the chapter's words do.
func accepted(t *testing.T, what string, public, message, signature []byte) {
	t.Helper()
	if !plainVerify(public, message, signature) {
		t.Fatalf("%s: the test's own signature %x isn't right", what, signature)
	}
	if !Verify(public, message, signature) {
		t.Errorf("%s: %x is refused", what, signature)
	}
}

// refused fails, unless Verify refuses the signature.
func refused(t *testing.T, what string, public, message, signature []byte) {
	t.Helper()
	if Verify(public, message, signature) {
		t.Errorf("%s: %x is taken for right", what, signature)
	}
}

// keyFor answers the public key's point of which r and s are right, if r is the X of sum modulo n: sum is (z / s) G + (r / s) Q.
func keyFor(sum point, z, r, s *big.Int) point {
	return sum.times(overN(s, r)).plus(base.times(overN(z, r)).mirror())
}

// signed answers a public key, a message, and its signature with both of its numbers.
func signed(t *testing.T) (public, message, signature []byte, r, s *big.Int) {
	t.Helper()
	message = []byte("what was said")
	public, signature = mustPublic(t, whole(knownKey)), mustSign(t, whole(knownKey), message)
	r, s, ok := plainNumbers(signature)
	if !ok {
		t.Fatalf("%x is no pair's bytes", signature)
	}
	return public, message, signature, r, s
}

// forged answers a pair that would be right of the neutral point, if that were a public key's.
func forged(message []byte) []byte {
	u := big.NewInt(12345)
	return plainPair(new(big.Int).Mod(base.times(u).x, bigN), overN(plainNumber(message), u))
}

// P11.1: a signature is of one message alone: each bit counts, and so does how many bytes there are.
func TestOtherMessages(t *testing.T) {
	public, message, signature, _, _ := signed(t)
	accepted(t, "its own message", public, message, signature)
	for i := range len(message) * 8 {
		other := slices.Clone(message)
		other[i/8] ^= 1 << (i % 8)
		refused(t, fmt.Sprintf("the bit %d of the message otherwise", i), public, other, signature)
	}
	refused(t, "no message", public, nil, signature)
	refused(t, "a byte less", public, message[:len(message)-1], signature)
	refused(t, "a byte more", public, append(slices.Clone(message), 0), signature)
	refused(t, "another message", public, []byte("what was not said"), signature)
}

// P11.1: a signature is of one key alone.
func TestOtherKeys(t *testing.T) {
	public, message, signature, _, _ := signed(t)
	for _, d := range edgeKeys() {
		own := d.Cmp(whole(knownKey)) == 0
		if Verify(mustPublic(t, d), message, signature) != own {
			t.Errorf("the key %x: Verify is %v", d, !own)
		}
		if !own {
			refused(t, "the signature by another key", public, message, mustSign(t, d, message))
		}
	}
	q, _ := plainPoint(public)
	refused(t, "the mirror of the key", q.mirror().bytes(), message, signature)
	for i := range len(public) * 8 {
		other := slices.Clone(public)
		other[i/8] ^= 1 << (i % 8)
		refused(t, fmt.Sprintf("the bit %d of the key otherwise", i), other, message, signature)
	}
}

// P11.1: each bit of a signature counts, and each byte of it may be any other.
func TestOtherSignatures(t *testing.T) {
	public, message, signature, _, _ := signed(t)
	for i := range signature {
		for bit := range 8 {
			other := slices.Clone(signature)
			other[i] ^= 1 << bit
			refused(t, fmt.Sprintf("the bit %d of the byte %d otherwise", bit, i), public, message, other)
		}
		for _, d := range []byte{3, 127, 255} {
			other := slices.Clone(signature)
			other[i] += d
			refused(t, fmt.Sprintf("the byte %d with %d more", i, d), public, message, other)
		}
	}
}

// P11.1: n less the second number is right where that is; so it is not where that isn't, nor with the first one.
func TestMirroredNumbers(t *testing.T) {
	for _, d := range edgeKeys() {
		for _, message := range messages()[:9] {
			public := mustPublic(t, d)
			r, s, _ := plainNumbers(mustSign(t, d, message))
			what := fmt.Sprintf("the key %x and %x", d, message)
			if !Verify(public, message, plainPair(r, lessN(s))) {
				t.Errorf("%s: the signature with n less its second number is refused", what)
			}
			refused(t, what+" with n less the first", public, message, plainPair(lessN(r), s))
			refused(t, what+" with n less both", public, message, plainPair(lessN(r), lessN(s)))
		}
	}
	public, message, _, r, s := signed(t)
	accepted(t, "n less the second number", public, message, plainPair(r, lessN(s)))
	refused(t, "in each other's place", public, message, plainPair(s, r))
	refused(t, "the first twice", public, message, plainPair(r, r))
	refused(t, "the second twice", public, message, plainPair(s, s))
}

// P11.1: numbers that are 0, n or more, or just below n, are right with none of the others.
func TestNumbersAtTheEdges(t *testing.T) {
	public, message, _, r, s := signed(t)
	edges := []*big.Int{
		new(big.Int), big.NewInt(1), big.NewInt(2), off(bigN, -2), off(bigN, -1), bigN, off(bigN, 1), off(bigN, 2),
		off(bigP, -1), bigP, off(bigP, 1), off(power(256), -2), off(power(256), -1),
	}
	keys := map[string][]byte{"the key": public, "the key 1": base.bytes(), "the key n - 1": base.mirror().bytes()}
	for name, key := range keys {
		for _, a := range edges {
			refused(t, fmt.Sprintf("%s, r is %x", name, a), key, message, plainPair(a, s))
			refused(t, fmt.Sprintf("%s, s is %x", name, a), key, message, plainPair(r, a))
			for _, b := range edges {
				refused(t, fmt.Sprintf("%s, %x and %x", name, a, b), key, message, plainPair(a, b))
			}
		}
	}
}

// P11.1: small and great numbers are right, of a key that is made for them; the same with n more are not.
func TestRightAtTheEdges(t *testing.T) {
	message := []byte("message")
	z := plainNumber(message)
	made := 0
	for _, r := range []*big.Int{big.NewInt(5), big.NewInt(6), off(bigN, -2), off(bigN, -3), off(bigN, -4), off(bigN, -5)} {
		sum, ok := pointAt(r)
		if !ok {
			continue
		}
		made++
		for _, s := range []*big.Int{big.NewInt(1), big.NewInt(2), new(big.Int).Rsh(bigN, 1), off(bigN, -2), off(bigN, -1)} {
			what := fmt.Sprintf("r is %x, s is %x", r, s)
			public := keyFor(sum, z, r, s).bytes()
			accepted(t, what, public, message, plainPair(r, s))
			refused(t, what+", s 0", public, message, plainPair(r, new(big.Int)))
			refused(t, what+", s 3 more", public, message, plainPair(r, off(s, 3)))
			for name, pair := range map[string][2]*big.Int{
				"n more at r": {new(big.Int).Add(r, bigN), s},
				"n more at s": {r, new(big.Int).Add(s, bigN)},
				"n more":      {new(big.Int).Add(r, bigN), new(big.Int).Add(s, bigN)},
			} {
				if pair[0].BitLen() <= 256 && pair[1].BitLen() <= 256 {
					refused(t, what+", "+name, public, message, plainPair(pair[0], pair[1]))
				}
			}
		}
	}
	if made < 3 {
		t.Fatalf("just %d of the numbers are a point's", made)
	}
}

// P11.1: where the sum's X is n or more, it is X modulo n that r must be.
func TestXAboveTheOrder(t *testing.T) {
	z := plainNumber([]byte("message"))
	last := off(new(big.Int).Sub(bigP, bigN), -1)
	made := 0
	for i := range int64(20) {
		for _, r := range []*big.Int{big.NewInt(i + 1), off(last, -i)} {
			x := new(big.Int).Add(r, bigN)
			sum, ok := pointAt(x)
			if !ok || made == 6 {
				continue
			}
			made++
			s := big.NewInt(1000 + i)
			public := keyFor(sum, z, r, s).bytes()
			what := fmt.Sprintf("X is %x", x)
			accepted(t, what, public, []byte("message"), plainPair(r, s))
			accepted(t, what+", n less s", public, []byte("message"), plainPair(r, lessN(s)))
			refused(t, what+", as r", public, []byte("message"), plainPair(x, s))
		}
	}
	if made < 6 {
		t.Fatalf("just %d of the numbers are a point's", made)
	}
}

// P11.1: a number of a message that is n or more counts modulo n.
func TestVerifyNumberAboveTheOrder(t *testing.T) {
	message, r := []byte(highMessage), newRand()
	for range 5 {
		sum := base.times(someUnit(r))
		x, s := new(big.Int).Mod(sum.x, bigN), someUnit(r)
		accepted(t, "made for it", keyFor(sum, plainNumber(message), x, s).bytes(), message, plainPair(x, s))
	}
}

// P11.1: where both multiples make the neutral point, nothing is right.
func TestNeutralSum(t *testing.T) {
	message, some := []byte("message"), newRand()
	z := plainNumber(message)
	for _, r := range []*big.Int{big.NewInt(1), big.NewInt(2), off(bigN, -1), someUnit(some)} {
		public := base.times(lessN(overN(z, r))).bytes()
		for _, s := range []*big.Int{big.NewInt(1), r, off(bigN, -1), someUnit(some)} {
			refused(t, fmt.Sprintf("r is %x, s is %x", r, s), public, message, plainPair(r, s))
		}
	}
}

// P11.1: where both multiples are one point, its double counts.
func TestDoubledSum(t *testing.T) {
	message, some := []byte("message"), newRand()
	z := plainNumber(message)
	for range 5 {
		u := someUnit(some)
		half := base.times(u)
		r := new(big.Int).Mod(half.plus(half).x, bigN)
		public, signature := base.times(overN(z, r)).bytes(), plainPair(r, overN(z, u))
		accepted(t, "both are one point", public, message, signature)
		refused(t, "another message", public, []byte("another"), signature)
	}
}

// P11.1: what is no public key, or the neutral point's, has no right signature, not even one that would be right with no key at all.
func TestNoPublicKeys(t *testing.T) {
	public, message, signature, _, _ := signed(t)
	q, _ := plainPoint(public)
	noughts := new(big.Int)
	small, ok := pointAt(big.NewInt(5))
	if !ok {
		t.Fatal("5 is no point's X")
	}
	keys := map[string][]byte{
		"nil":                          nil,
		"no bytes":                     {},
		"the neutral point":            {0},
		"one byte 4":                   {4},
		"33 bytes":                     public[:33],
		"33 bytes from 2 on":           append([]byte{2}, public[1:33]...),
		"33 bytes from 3 on":           append([]byte{3}, public[1:33]...),
		"64 bytes":                     public[:64],
		"64 bytes, without the first":  public[1:],
		"66 bytes, 0 behind":           append(slices.Clone(public), 0),
		"66 bytes, 0 ahead":            append([]byte{0}, public...),
		"65 bytes 0":                   make([]byte, 65),
		"65 bytes 255":                 bytes.Repeat([]byte{255}, 65),
		"the neutral point, 65 bytes":  rawKey(0, noughts, noughts),
		"noughts":                      rawKey(4, noughts, noughts),
		"X and Y exchanged":            rawKey(4, q.y, q.x),
		"Y one more":                   rawKey(4, q.x, off(q.y, 1)),
		"X one more":                   rawKey(4, off(q.x, 1), q.y),
		"X at p":                       rawKey(4, bigP, q.y),
		"X is 5 + p, a point modulo p": rawKey(4, new(big.Int).Add(small.x, bigP), small.y),
		"two keys":                     append(slices.Clone(public), public...),
	}
	for _, first := range []byte{0, 1, 2, 3, 5, 6, 7, 255} {
		keys[fmt.Sprintf("65 bytes from %d on", first)] = rawKey(first, q.x, q.y)
	}
	for name, key := range keys {
		if _, ok := plainPoint(key); ok {
			t.Fatalf("%s: the test's own bytes are a key", name)
		}
		refused(t, name, key, message, signature)
		refused(t, name+", right with no key", key, message, forged(message))
		refused(t, name+", zeros", key, message, plainPair(noughts, noughts))
		refused(t, name+", no signature", key, message, nil)
	}
}

// P11.1: signatures that are cut or grown are no pair's.
func TestCutAndGrown(t *testing.T) {
	public, message, signature, _, _ := signed(t)
	refused(t, "nil", public, message, nil)
	for i := range signature {
		refused(t, fmt.Sprintf("the first %d bytes", i), public, message, signature[:i])
		refused(t, fmt.Sprintf("without the first %d bytes", i+1), public, message, signature[i+1:])
		refused(t, fmt.Sprintf("without the byte %d", i), public, message, slices.Delete(slices.Clone(signature), i, i+1))
		for _, x := range []byte{0, 2, 48, 255} {
			refused(t, fmt.Sprintf("a byte %d ahead of the byte %d", x, i), public, message, slices.Insert(slices.Clone(signature), i, x))
		}
	}
	for _, more := range [][]byte{{0}, {2, 1, 0}, signature, make([]byte, 1000)} {
		refused(t, fmt.Sprintf("%d bytes more", len(more)), public, message, slices.Concat(signature, more))
	}
}

// P11.1: the right numbers, written otherwise than layer 10 does, are no signature.
func TestWrittenOtherwise(t *testing.T) {
	public, message, signature, r, s := signed(t)
	wrap := func(first byte, parts ...[]byte) []byte {
		both := slices.Concat(parts...)
		return slices.Concat([]byte{first, byte(len(both))}, both)
	}
	if !bytes.Equal(wrap(48, plainInteger(r), plainInteger(s)), signature) {
		t.Fatal("the test's own bytes aren't the signature's")
	}
	with := func(ahead int, a *big.Int) []byte {
		return wrap(2, make([]byte, ahead), a.Bytes())
	}
	both := slices.Concat(plainInteger(r), plainInteger(s))
	for name, b := range map[string][]byte{
		"64 bytes":               slices.Concat(bytesOf(r), bytesOf(s)),
		"both alone":             both,
		"a length of two bytes":  slices.Concat([]byte{48, 129, byte(len(both))}, both),
		"no length":              slices.Concat([]byte{48, 128}, both, []byte{0, 0}),
		"another first byte":     wrap(49, plainInteger(r), plainInteger(s)),
		"noughts ahead of r":     wrap(48, with(2, r), plainInteger(s)),
		"noughts ahead of s":     wrap(48, plainInteger(r), with(2, s)),
		"r and s without 0":      wrap(48, with(0, r), with(0, s)),
		"r alone":                wrap(48, plainInteger(r)),
		"a third number":         wrap(48, plainInteger(r), plainInteger(s), plainInteger(s)),
		"a pair in a pair":       wrap(48, signature),
		"noughts behind, inside": wrap(48, plainInteger(r), plainInteger(s), []byte{0}),
	} {
		if bytes.Equal(b, signature) {
			continue // A number below 2^255 needs no byte 0.
		}
		refused(t, name, public, message, b)
	}
}

// P11.1, R1: bytes that follow no rule, long ones among them, are no keys and no signatures, and nothing panics.
func TestBytesWithoutRule(t *testing.T) {
	public, message, signature, _, _ := signed(t)
	r := newRand()
	for i := range 300 {
		junk := someBytes(r, i)
		refused(t, "a key without rule", junk, message, signature)
		refused(t, "a signature without rule", public, message, junk)
		refused(t, "both without rule", junk, junk, junk)
		if i >= 65 {
			junk[0], junk[1] = 48, byte(i-2)
			refused(t, "a signature that begins as one", public, message, junk)
			junk[0] = 4
			refused(t, "a key that begins as one", junk[:65], message, signature)
		}
	}
	long := someBytes(r, 1<<20)
	refused(t, "a long key", long, message, signature)
	refused(t, "a long signature", public, message, long)
	refused(t, "all long", long, long, long)
	refused(t, "all nil", nil, nil, nil)
	refused(t, "a long one that begins as a signature", public, message, slices.Concat(signature, long))
	refused(t, "a long one that begins as a key", slices.Concat(public, long), message, signature)
}

// P11.1: pairs of numbers that follow no rule are what the chapter's words and the standard library say.
func TestPairsWithoutRule(t *testing.T) {
	r := newRand()
	for range 40 {
		public, message := base.times(someUnit(r)).bytes(), someBytes(r, r.IntN(200))
		signature := plainPair(someUnit(r), someUnit(r))
		got := Verify(public, message, signature)
		if got != plainVerify(public, message, signature) || got != standardVerify(public, message, signature) {
			t.Errorf("%x of %x and %x: Verify is %v", signature, public, message, got)
		}
	}
}

// P11.1: a signature is right with each nonce, not only with those that Sign takes.
func TestOtherNonces(t *testing.T) {
	r := newRand()
	for range 40 {
		d, k, message := someUnit(r), someUnit(r), someBytes(r, r.IntN(200))
		x := new(big.Int).Mod(base.times(k).x, bigN)
		s := overN(new(big.Int).Add(plainNumber(message), timesN(x, d)), k)
		accepted(t, "with another nonce", base.times(d).bytes(), message, plainPair(x, s))
	}
}
