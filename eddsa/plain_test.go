package eddsa

import (
	"bytes"
	"crypto/ed25519"
	"crypto/sha512"
	"encoding/hex"
	"math/big"
	"math/rand/v2"
	"slices"

	"chronicle/api"
)

// The numbers of the curve, as chapters 2 and 9 write them.
var (
	bigP    = off(power(255), -19)
	bigL    = new(big.Int).Add(power(252), decimal("27742317777372353535851937790883648493"))
	bigD    = quotient(big.NewInt(-121665), big.NewInt(121666))
	neutral = point{new(big.Int), big.NewInt(1)}
	base    = basePoint()
)

// A point is one of the curve.
type point struct{ x, y *big.Int }

func newRand() *rand.Rand { return rand.New(rand.NewPCG(12, 35)) }

// decimal answers the number of those decimal digits.
func decimal(digits string) *big.Int {
	a, ok := new(big.Int).SetString(digits, 10)
	if !ok {
		panic(digits)
	}
	return a
}

// unhex answers the bytes of those hexadecimal digits.
func unhex(digits string) []byte {
	b, err := hex.DecodeString(digits)
	if err != nil {
		panic(err)
	}
	return b
}

// off answers a + d.
func off(a *big.Int, d int64) *big.Int {
	return new(big.Int).Add(a, big.NewInt(d))
}

// power answers 2^n.
func power(n uint) *big.Int {
	return new(big.Int).Lsh(big.NewInt(1), n)
}

// product answers those numbers, multiplied.
func product(numbers ...*big.Int) *big.Int {
	all := big.NewInt(1)
	for _, a := range numbers {
		all.Mul(all, a)
	}
	return all
}

// quotient answers a / b modulo p, where b isn't 0 modulo p.
func quotient(a, b *big.Int) *big.Int {
	q := new(big.Int).ModInverse(new(big.Int).Mod(b, bigP), bigP)
	return q.Mul(q, a).Mod(q, bigP)
}

// fromLittle answers the number of the bytes, the least one first.
func fromLittle(b []byte) *big.Int {
	turned := slices.Clone(b)
	slices.Reverse(turned)
	return new(big.Int).SetBytes(turned)
}

// little answers the 32 bytes of a, which is from 0 to 2^256 - 1, the least one first.
func little(a *big.Int) []byte {
	b := a.FillBytes(make([]byte, 32))
	slices.Reverse(b)
	return b
}

// whole answers a as a number of math/big.
func whole(a api.Nat) *big.Int {
	all := new(big.Int)
	for i := len(a) - 1; i >= 0; i-- {
		all.Lsh(all, 64)
		all.Add(all, new(big.Int).SetUint64(a[i]))
	}
	return all
}

// someBytes answers so many bytes that follow no rule.
func someBytes(r *rand.Rand, count int) []byte {
	b := make([]byte, count)
	for i := range b {
		b[i] = byte(r.Uint32())
	}
	return b
}

// someSeed answers a seed that follows no rule.
func someSeed(r *rand.Rand) api.Hash {
	return api.Hash(someBytes(r, 32))
}

// someBelow answers a number below L that follows no rule.
func someBelow(r *rand.Rand) *big.Int {
	a := new(big.Int).SetBytes(someBytes(r, 40))
	return a.Mod(a, bigL)
}

// basePoint answers the base point, by its Y and its even X.
func basePoint() point {
	p, ok := pointAt(quotient(big.NewInt(4), big.NewInt(5)), false)
	if !ok {
		panic("there is no base point")
	}
	return p
}

// pointAt answers the point with that Y and an odd X or an even one, and whether there is one.
func pointAt(y *big.Int, odd bool) (point, bool) {
	yy := product(y, y)
	down := off(product(bigD, yy), 1)
	x := new(big.Int).ModSqrt(quotient(off(yy, -1), down), bigP)
	if x == nil || y.Cmp(bigP) >= 0 {
		return neutral, false
	}
	for _, p := range []point{{x, y}, point{x, y}.mirror()} {
		if (p.x.Bit(0) == 1) == odd {
			return p, true
		}
	}
	return neutral, false
}

// same answers whether p and q are one point.
func (p point) same(q point) bool {
	return p.x.Cmp(q.x) == 0 && p.y.Cmp(q.y) == 0
}

// mirror answers (-X, Y).
func (p point) mirror() point {
	x := new(big.Int).Neg(p.x)
	return point{x.Mod(x, bigP), p.y}
}

// plus answers p and q, added as chapter 9's words say.
func (p point) plus(q point) point {
	t := product(bigD, p.x, q.x, p.y, q.y)
	x := new(big.Int).Add(product(p.x, q.y), product(q.x, p.y))
	y := new(big.Int).Add(product(p.y, q.y), product(p.x, q.x))
	return point{quotient(x, off(t, 1)), quotient(y, off(new(big.Int).Neg(t), 1))}
}

// times answers k times p.
func (p point) times(k *big.Int) point {
	all := neutral
	for i := k.BitLen() - 1; i >= 0; i-- {
		all = all.plus(all)
		if k.Bit(i) == 1 {
			all = all.plus(p)
		}
	}
	return all
}

// bytes answers the bytes of p, as chapter 9's words say.
func (p point) bytes() []byte {
	return rawPoint(p.y, p.x.Bit(0) == 1)
}

// rawPoint answers the bytes of y, which is below 2^255, and 128 more in the last one if odd, be they a point's or not.
func rawPoint(y *big.Int, odd bool) []byte {
	b := little(y)
	if odd {
		b[31] += 128
	}
	return b
}

// cutPoint answers the number and the oddness that 32 bytes stand for.
func cutPoint(b []byte) (y *big.Int, odd bool) {
	y = fromLittle(b)
	odd = y.Bit(255) == 1
	return y.SetBit(y, 255, 0), odd
}

// plainPoint answers the point whose bytes b is, and whether there is one.
func plainPoint(b []byte) (point, bool) {
	if len(b) != 32 {
		return neutral, false
	}
	return pointAt(cutPoint(b))
}

// loosePoint answers the point that 32 bytes would be of, were Y taken modulo p, and 0 as odd as any number.
func loosePoint(b []byte) (point, bool) {
	y, odd := cutPoint(b)
	y.Mod(y, bigP)
	if p, ok := pointAt(y, odd); ok {
		return p, true
	}
	p, ok := pointAt(y, false)
	return p, ok && p.x.Sign() == 0
}

// smallPoints are the eight points of small order: the multiples, from 0 to 7, of one of the order 8.
func smallPoints() []point {
	for y := int64(2); ; y++ {
		p, ok := pointAt(big.NewInt(y), false)
		if !ok {
			continue
		}
		p = p.times(bigL)
		points := []point{neutral}
		for q := p; !q.same(neutral); q = q.plus(p) {
			points = append(points, q)
		}
		if len(points) == 8 {
			return points
		}
	}
}

// wholeHash answers the number of the hash of the parts, which isn't taken modulo L yet.
func wholeHash(parts ...[]byte) *big.Int {
	h := sha512.Sum512(bytes.Join(parts, nil))
	return fromLittle(h[:])
}

// plainNumber answers the number of the hash of the parts, modulo L.
func plainNumber(parts ...[]byte) *big.Int {
	a := wholeHash(parts...)
	return a.Mod(a, bigL)
}

// plainSplit answers the seed's number a, bit by bit as the chapter's words say, and the second half of its hash.
func plainSplit(seed api.Hash) (*big.Int, []byte) {
	h := sha512.Sum512(seed[:])
	a := fromLittle(h[:32])
	for _, i := range []int{0, 1, 2, 255} {
		a.SetBit(a, i, 0)
	}
	return a.SetBit(a, 254, 1), h[32:]
}

// plainPublic answers the public key of the seed, as the chapter's words say.
func plainPublic(seed api.Hash) []byte {
	a, _ := plainSplit(seed)
	return base.times(a).bytes()
}

// plainSign answers the signature of the message by the seed, as the chapter's words say.
func plainSign(seed api.Hash, message []byte) []byte {
	a, second := plainSplit(seed)
	r := plainNumber(second, message)
	return signWith(a, r, base.times(r).bytes(), plainPublic(seed), message)
}

// signWith answers the signature with those R and public key, be they those of r and a or not.
func signWith(a, r *big.Int, first, public, message []byte) []byte {
	s := new(big.Int).Add(r, product(plainNumber(first, public, message), a))
	return pair(first, s.Mod(s, bigL))
}

// pair answers the first half, and behind it the bytes of s.
func pair(first []byte, s *big.Int) []byte {
	return slices.Concat(first, little(s))
}

// plainVerify answers whether the signature is right, as the chapter's words say.
func plainVerify(public, message, signature []byte) bool {
	if len(signature) != 64 {
		return false
	}
	r, okR := plainPoint(signature[:32])
	q, okQ := plainPoint(public)
	s := fromLittle(signature[32:])
	if !okR || !okQ || s.Cmp(bigL) >= 0 {
		return false
	}
	k := plainNumber(signature[:32], public, message)
	return base.times(s).same(r.plus(q.times(k)))
}

// standardKey answers the standard library's key of the seed.
func standardKey(seed api.Hash) ed25519.PrivateKey {
	return ed25519.NewKeyFromSeed(seed[:])
}

// standardVerify answers whether the standard library takes the signature for right; of keys that it takes more loosely, it says nothing.
func standardVerify(public, message, signature []byte) bool {
	_, ok := plainPoint(public)
	return ok && ed25519.Verify(public, message, signature)
}

// seeds are the seeds at the edges, those of the known signatures, and some that follow no rule.
func seeds() []api.Hash {
	r := newRand()
	list := []api.Hash{{}, api.Hash(bytes.Repeat([]byte{255}, 32)), {1}, {31: 1}, {31: 128}, {0: 255, 31: 255}}
	for _, c := range known {
		list = append(list, api.Hash(unhex(c.seed)))
	}
	return append(list, someSeed(r), someSeed(r), someSeed(r))
}

// messages are messages of no bytes, of few, of about a block, and of many.
func messages() [][]byte {
	r := newRand()
	list := [][]byte{nil, {}, {0}, {1}, {255}, []byte("a"), []byte("message")}
	for _, n := range []int{31, 32, 33, 47, 48, 63, 64, 65, 79, 80, 111, 112, 127, 128, 129, 255, 256, 300, 777, 10007} {
		list = append(list, someBytes(r, n))
	}
	return append(list, make([]byte, 64), bytes.Repeat([]byte{255}, 500))
}
