package ecdsa

import (
	"bytes"
	"crypto"
	standard "crypto/ecdsa"
	"crypto/elliptic"
	"crypto/hmac"
	"crypto/sha256"
	"math/big"
	"math/rand/v2"
	"testing"

	"chronicle/api"
)

// The numbers of the curve, digit by digit as chapters 2 and 8 write them.
var (
	bigP = decimal("115792089210356248762697446949407573530086143415290314195533631308867097853951")
	bigN = decimal("115792089210356248762697446949407573529996955224135760342422259061068512044369")
	bigB = decimal("41058363725152142129326129780047268409114441015993725554835256314039467401291")
	base = point{
		decimal("48439561293906451759052585252797914202762949526041747995844080717082404635286"),
		decimal("36134250956749795798585127919587881956611106672985015071877198253568414405109"),
	}
)

// A point is one of the curve; the neutral one has no numbers.
type point struct{ x, y *big.Int }

func newRand() *rand.Rand { return rand.New(rand.NewPCG(11, 32)) }

// decimal answers the number of those decimal digits.
func decimal(digits string) *big.Int {
	a, ok := new(big.Int).SetString(digits, 10)
	if !ok {
		panic(digits)
	}
	return a
}

// hexNat answers the number of those hexadecimal digits.
func hexNat(digits string) api.Nat {
	a, ok := new(big.Int).SetString(digits, 16)
	if !ok {
		panic(digits)
	}
	return nat(a)
}

// nat answers a, which is from 0 to 2^256 - 1, as a Nat.
func nat(a *big.Int) api.Nat {
	var limbs api.Nat
	for i, x := range bytesOf(a) {
		limbs[3-i/8] = limbs[3-i/8]<<8 | uint64(x)
	}
	return limbs
}

// whole answers a as a number of math/big.
func whole(a api.Nat) *big.Int {
	all := new(big.Int)
	for i := len(a) - 1; i >= 0; i-- {
		all.Lsh(all, 64)
		all.Add(all, new(big.Int).SetUint64(a[i]))
	}
	return all
}

// bytesOf answers the 32 bytes of a, which is from 0 to 2^256 - 1, the most significant one first.
func bytesOf(a *big.Int) []byte {
	return a.FillBytes(make([]byte, 32))
}

// off answers a + d.
func off(a *big.Int, d int64) *big.Int {
	return new(big.Int).Add(a, big.NewInt(d))
}

// power answers 2^n.
func power(n uint) *big.Int {
	return new(big.Int).Lsh(big.NewInt(1), n)
}

// someBytes answers so many bytes that follow no rule.
func someBytes(r *rand.Rand, count int) []byte {
	b := make([]byte, count)
	for i := range b {
		b[i] = byte(r.Uint32())
	}
	return b
}

// someUnit answers a number from 1 to n - 1 that follows no rule.
func someUnit(r *rand.Rand) *big.Int {
	a := new(big.Int).SetBytes(someBytes(r, 40))
	return off(a.Mod(a, off(bigN, -1)), 1)
}

// isUnit answers whether a is from 1 to n - 1.
func isUnit(a *big.Int) bool {
	return a.Sign() > 0 && a.Cmp(bigN) < 0
}

// timesN answers a b modulo n.
func timesN(a, b *big.Int) *big.Int {
	c := new(big.Int).Mul(a, b)
	return c.Mod(c, bigN)
}

// overN answers a / b modulo n.
func overN(a, b *big.Int) *big.Int {
	return timesN(a, new(big.Int).ModInverse(b, bigN))
}

// lessN answers -a modulo n.
func lessN(a *big.Int) *big.Int {
	b := new(big.Int).Neg(a)
	return b.Mod(b, bigN)
}

// square answers what the square of a point's Y is, by its X.
func square(x *big.Int) *big.Int {
	right := new(big.Int).Exp(x, big.NewInt(3), nil)
	right.Sub(right, new(big.Int).Mul(big.NewInt(3), x)).Add(right, bigB)
	return right.Mod(right, bigP)
}

// pointAt answers a point with that X, and whether there is one.
func pointAt(x *big.Int) (point, bool) {
	y := new(big.Int).ModSqrt(square(x), bigP)
	return point{x, y}, x.Sign() >= 0 && x.Cmp(bigP) < 0 && y != nil
}

// neutral answers whether p is the neutral point.
func (p point) neutral() bool { return p.x == nil }

// mirror answers (X, -Y).
func (p point) mirror() point {
	if p.neutral() {
		return p
	}
	return point{p.x, new(big.Int).Sub(bigP, p.y)}
}

// plus answers p and q, added as chapter 8's words say, case by case.
func (p point) plus(q point) point {
	if p.neutral() {
		return q
	}
	if q.neutral() {
		return p
	}
	up, down := new(big.Int).Sub(q.y, p.y), new(big.Int).Sub(q.x, p.x)
	if down.Sign() == 0 {
		if up.Sign() != 0 {
			return point{}
		}
		up.Mul(p.x, p.x).Sub(up, big.NewInt(1)).Mul(up, big.NewInt(3))
		down.Lsh(p.y, 1)
	}
	l := up.Mul(up, down.ModInverse(down.Mod(down, bigP), bigP))
	x := new(big.Int).Mul(l, l)
	x.Sub(x, p.x).Sub(x, q.x).Mod(x, bigP)
	y := new(big.Int).Sub(p.x, x)
	y.Mul(y, l).Sub(y, p.y).Mod(y, bigP)
	return point{x, y}
}

// times answers k times p.
func (p point) times(k *big.Int) point {
	var all point
	for i := k.BitLen() - 1; i >= 0; i-- {
		all = all.plus(all)
		if k.Bit(i) == 1 {
			all = all.plus(p)
		}
	}
	return all
}

// bytes answers the bytes of p, as chapter 8's words say.
func (p point) bytes() []byte {
	if p.neutral() {
		return []byte{0}
	}
	return rawKey(4, p.x, p.y)
}

// rawKey answers a first byte and two numbers as bytes, be they a point's or not.
func rawKey(first byte, x, y *big.Int) []byte {
	return append(append([]byte{first}, bytesOf(x)...), bytesOf(y)...)
}

// plainPoint answers the point whose bytes b is, and whether there is one that isn't neutral.
func plainPoint(b []byte) (point, bool) {
	if len(b) != 65 || b[0] != 4 {
		return point{}, false
	}
	x, y := new(big.Int).SetBytes(b[1:33]), new(big.Int).SetBytes(b[33:])
	yy := new(big.Int).Mul(y, y)
	return point{x, y}, x.Cmp(bigP) < 0 && y.Cmp(bigP) < 0 && yy.Mod(yy, bigP).Cmp(square(x)) == 0
}

// plainInteger answers the INTEGER of a, as chapter 10's words say.
func plainInteger(a *big.Int) []byte {
	b := a.Bytes()
	if len(b) == 0 || b[0] >= 128 {
		b = append([]byte{0}, b...)
	}
	return append([]byte{2, byte(len(b))}, b...)
}

// plainPair answers the bytes of r and s, as chapter 10's words say.
func plainPair(r, s *big.Int) []byte {
	both := append(plainInteger(r), plainInteger(s)...)
	return append([]byte{48, byte(len(both))}, both...)
}

// plainNumbers answers the pair whose bytes b is, and whether there is one.
func plainNumbers(b []byte) (r, s *big.Int, ok bool) {
	if len(b) < 8 || len(b) > 72 || int(b[3])+6 > len(b) {
		return nil, nil, false
	}
	second := int(b[3]) + 6
	r, s = new(big.Int).SetBytes(b[4:second-2]), new(big.Int).SetBytes(b[second:])
	return r, s, r.BitLen() <= 256 && s.BitLen() <= 256 && bytes.Equal(b, plainPair(r, s))
}

// plainNumber answers the number of the message.
func plainNumber(message []byte) *big.Int {
	h := sha256.Sum256(message)
	return new(big.Int).SetBytes(h[:])
}

// plainStream answers the first numbers, so many, of the stream from d and z as they are, step by step as chapter 7 says.
func plainStream(d, z *big.Int, count int) []*big.Int {
	v, k := bytes.Repeat([]byte{1}, 32), make([]byte, 32)
	mac := func(parts ...[]byte) []byte {
		h := hmac.New(sha256.New, k)
		for _, part := range parts {
			h.Write(part)
		}
		return h.Sum(nil)
	}
	for mark := range byte(2) {
		k = mac(v, []byte{mark}, bytesOf(d), bytesOf(z))
		v = mac(v)
	}
	var list []*big.Int
	for len(list) < count {
		if len(list) > 0 {
			k = mac(v, []byte{0})
			v = mac(v)
		}
		v = mac(v)
		list = append(list, new(big.Int).SetBytes(v))
	}
	return list
}

// plainNonces answers the nonces of a key and a message, as the chapter's words say.
func plainNonces(d *big.Int, message []byte) []*big.Int {
	z := plainNumber(message)
	var list []*big.Int
	for _, k := range plainStream(d, z.Mod(z, bigN), 8) {
		if isUnit(k) {
			list = append(list, k)
		}
	}
	return list
}

// plainSign answers the signature of a key and a message, as the chapter's words say; nil, if there is none.
func plainSign(d *big.Int, message []byte) []byte {
	for _, k := range plainNonces(d, message) {
		r := new(big.Int).Mod(base.times(k).x, bigN)
		s := overN(new(big.Int).Add(plainNumber(message), timesN(r, d)), k)
		if r.Sign() != 0 && s.Sign() != 0 {
			return plainPair(r, s)
		}
	}
	return nil
}

// plainVerify answers whether the signature is right, as the chapter's words say.
func plainVerify(public, message, signature []byte) bool {
	q, ok := plainPoint(public)
	if !ok {
		return false
	}
	r, s, ok := plainNumbers(signature)
	if !ok || !isUnit(r) || !isUnit(s) {
		return false
	}
	sum := base.times(overN(plainNumber(message), s)).plus(q.times(overN(r, s)))
	return !sum.neutral() && new(big.Int).Mod(sum.x, bigN).Cmp(r) == 0
}

// standardKey answers the standard library's key of the number d, which is from 1 to n - 1.
func standardKey(t *testing.T, d *big.Int) *standard.PrivateKey {
	t.Helper()
	key, err := standard.ParseRawPrivateKey(elliptic.P256(), bytesOf(d))
	if err != nil {
		t.Fatalf("the key %x: %v", d, err)
	}
	return key
}

// standardSign answers the signature that the standard library makes without chance.
func standardSign(t *testing.T, d *big.Int, message []byte) []byte {
	t.Helper()
	h := sha256.Sum256(message)
	signature, err := standardKey(t, d).Sign(nil, h[:], crypto.SHA256)
	if err != nil {
		t.Fatalf("the key %x: %v", d, err)
	}
	return signature
}

// standardVerify answers whether the standard library takes the signature for right.
func standardVerify(public, message, signature []byte) bool {
	key, err := standard.ParseUncompressedPublicKey(elliptic.P256(), public)
	h := sha256.Sum256(message)
	return err == nil && standard.VerifyASN1(key, h[:], signature)
}

// edgeKeys are private keys at the edges, some in between, and some that follow no rule.
func edgeKeys() []*big.Int {
	r := newRand()
	half := new(big.Int).Rsh(bigN, 1)
	return []*big.Int{
		big.NewInt(1), big.NewInt(2), big.NewInt(3), big.NewInt(255), power(64), power(128), power(255), half, off(half, 1),
		off(bigN, -3), off(bigN, -2), off(bigN, -1), whole(knownKey), someUnit(r), someUnit(r), someUnit(r),
	}
}

// noKeys are numbers that are no private keys.
func noKeys() map[string]*big.Int {
	return map[string]*big.Int{
		"0":         new(big.Int),
		"n":         bigN,
		"n + 1":     off(bigN, 1),
		"n + 2":     off(bigN, 2),
		"p - 1":     off(bigP, -1),
		"p":         bigP,
		"n + 2^200": new(big.Int).Add(bigN, power(200)),
		"2^256 - 2": off(power(256), -2),
		"2^256 - 1": off(power(256), -1),
	}
}

// messages are messages of no bytes, of few, of about a block and of many.
func messages() [][]byte {
	r := newRand()
	list := [][]byte{nil, {}, {0}, {255}, []byte("a"), []byte("sample"), []byte("test"), []byte(highMessage)}
	for _, n := range []int{31, 32, 33, 55, 56, 63, 64, 65, 128, 300, 777, 10007} {
		list = append(list, someBytes(r, n))
	}
	return append(list, make([]byte, 64), bytes.Repeat([]byte{255}, 500))
}
