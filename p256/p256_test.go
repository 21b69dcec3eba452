package p256

import (
	"bytes"
	"crypto/ecdh"
	"encoding/hex"
	"fmt"
	"math/big"
	"math/rand/v2"
	"slices"
	"testing"

	"chronicle/api"
	"chronicle/field"
)

// none is the neutral point.
var none = api.Point{None: true}

// The chapter's numbers, digit by digit as it writes them; p and n as chapter 2 does.
var (
	bigP = number("115792089210356248762697446949407573530086143415290314195533631308867097853951")
	bigN = number("115792089210356248762697446949407573529996955224135760342422259061068512044369")
	bigB = number("41058363725152142129326129780047268409114441015993725554835256314039467401291")
	bigX = number("48439561293906451759052585252797914202762949526041747995844080717082404635286")
	bigY = number("36134250956749795798585127919587881956611106672985015071877198253568414405109")
)

func newRand() *rand.Rand { return rand.New(rand.NewPCG(8, 23)) }

// number answers the number of those decimal digits.
func number(digits string) *big.Int {
	a, ok := new(big.Int).SetString(digits, 10)
	if !ok {
		panic(digits)
	}
	return a
}

// nat answers a, which is from 0 to 2^256 - 1, as a Nat.
func nat(a *big.Int) api.Nat {
	var b [32]byte
	a.FillBytes(b[:])
	var limbs api.Nat
	for i, x := range b {
		limbs[3-i/8] = limbs[3-i/8]<<8 | uint64(x)
	}
	return limbs
}

// whole answers a as a number of math/big.
func whole(a api.Nat) *big.Int {
	all := new(big.Int)
	for i := len(a) - 1; i >= 0; i-- {
		all.Lsh(all, 64)
		all.Add(all, new(big.Int).SetUint64(a[i]))
	}
	return all
}

// hexNat answers the number of those hexadecimal digits.
func hexNat(digits string) api.Nat {
	a, ok := new(big.Int).SetString(digits, 16)
	if !ok {
		panic(digits)
	}
	return nat(a)
}

// someNat answers a number below 2^256 that follows no rule.
func someNat(r *rand.Rand) api.Nat {
	return api.Nat{r.Uint64(), r.Uint64(), r.Uint64(), r.Uint64()}
}

// offNat answers a + d modulo 2^256.
func offNat(a *big.Int, d int64) api.Nat {
	sum := new(big.Int).Add(a, big.NewInt(d))
	return nat(sum.Mod(sum, new(big.Int).Lsh(big.NewInt(1), 256)))
}

// plainFormed answers whether p is formed, as the chapter's words say.
func plainFormed(p api.Point) bool {
	x, y := whole(p.X), whole(p.Y)
	if p.None {
		return x.Sign() == 0 && y.Sign() == 0
	}
	if x.Cmp(bigP) >= 0 || y.Cmp(bigP) >= 0 {
		return false
	}
	right := new(big.Int).Exp(x, big.NewInt(3), nil)
	right.Sub(right, new(big.Int).Mul(big.NewInt(3), x))
	right.Add(right, bigB)
	right.Sub(right, y.Mul(y, y))
	return right.Mod(right, bigP).Sign() == 0
}

// plainSlope answers the chapter's l of two points that aren't neutral, nor each other's mirror.
func plainSlope(x1, y1, x2, y2 *big.Int) *big.Int {
	up, down := new(big.Int).Sub(y2, y1), new(big.Int).Sub(x2, x1)
	if down.Sign() == 0 {
		up.Mul(x1, x1).Sub(up, big.NewInt(1)).Mul(up, big.NewInt(3))
		down.Lsh(y1, 1)
	}
	down.Mod(down, bigP)
	return up.Mul(up, new(big.Int).ModInverse(down, bigP))
}

// plainAdd answers p and q, added as the chapter's words say, case by case.
func plainAdd(p, q api.Point) api.Point {
	if !plainFormed(p) {
		p = none
	}
	if !plainFormed(q) {
		q = none
	}
	if p.None {
		return q
	}
	if q.None {
		return p
	}
	x1, y1, x2, y2 := whole(p.X), whole(p.Y), whole(q.X), whole(q.Y)
	if x1.Cmp(x2) == 0 && new(big.Int).Add(y1, y2).Cmp(bigP) == 0 {
		return none
	}
	l := plainSlope(x1, y1, x2, y2)
	x := new(big.Int).Mul(l, l)
	x.Sub(x, x1).Sub(x, x2).Mod(x, bigP)
	y := new(big.Int).Sub(x1, x)
	y.Mul(y, l).Sub(y, y1).Mod(y, bigP)
	return api.Point{X: nat(x), Y: nat(y)}
}

// plainMul answers k times p, by plainAdd alone.
func plainMul(k api.Nat, p api.Point) api.Point {
	all, e := none, whole(k)
	for i := e.BitLen() - 1; i >= 0; i-- {
		all = plainAdd(all, all)
		if e.Bit(i) == 1 {
			all = plainAdd(all, p)
		}
	}
	return all
}

// plainEncode answers the bytes of p, as the chapter's words say.
func plainEncode(p api.Point) []byte {
	if p.None || !plainFormed(p) {
		return []byte{0}
	}
	return rawBytes(4, p.X, p.Y)
}

// rawBytes answers a tag and two numbers as bytes, be they a point's or not.
func rawBytes(tag byte, x, y api.Nat) []byte {
	b := make([]byte, 65)
	b[0] = tag
	whole(x).FillBytes(b[1:33])
	whole(y).FillBytes(b[33:])
	return b
}

// mirror answers (X, -Y).
func mirror(p api.Point) api.Point {
	if p.None {
		return p
	}
	p.Y = nat(new(big.Int).Sub(bigP, whole(p.Y)))
	return p
}

// basePoint answers the chapter's base point.
func basePoint() api.Point {
	return api.Point{X: nat(bigX), Y: nat(bigY)}
}

// edgePoints are formed points whose X or Y is small, or just below p, or such that it and p are just below 2^256.
func edgePoints() []api.Point {
	return []api.Point{
		{X: api.Nat{0}, Y: hexNat("66485c780e2f83d72433bd5d84a06bb6541c2af31dae871728bf856a174f93f4")},
		{X: api.Nat{5}, Y: hexNat("459243b9aa581806fe913bce99817ade11ca503c64d9a3c533415c083248fbcc")},
		{X: hexNat("fffffffefffffffffffffffffffffffeffffffffffffffffffffffff"), Y: hexNat("32cb4ef022ad7f5fd974cdcdadb35451bc5d69eb7d2b5b1a40ab1b5da29226d9")},
		{X: hexNat("6916fac45e568b6b9e2e2ecd611b282e5fcc40a3067d601057f879ce5a8a73cc"), Y: api.Nat{1}},
		{X: hexNat("cfe9c22cc6825c8aa62f56d3ddcaac9653eb03e08b283fbbc9fe1bd77607ce12"), Y: api.Nat{4}},
		{X: hexNat("39d5eaae3158d6bbd2e0696217cc991d0a1eb54306af7e238277ba431e4db995"), Y: hexNat("fffffffefffffffffffffffffffffffeffffffffffffffffffffffff")},
		{X: offNat(bigP, -3), Y: hexNat("19719bebf6aea13f25c96dfd7c71f5225d4c8fc09eb5a0ab9f39e9178e55c121")},
	}
}

// formedPoints are the neutral point, the base point, some of its multiples, the edges, and the mirrors of all of them.
func formedPoints(t *testing.T) []api.Point {
	t.Helper()
	points := append([]api.Point{none, basePoint()}, edgePoints()...)
	r := newRand()
	for _, k := range []api.Nat{{2}, {3}, {4}, {1 << 40}, someNat(r), someNat(r), someNat(r)} {
		points = append(points, plainMul(k, basePoint()))
	}
	for _, p := range slices.Clone(points[1:]) {
		points = append(points, mirror(p))
	}
	for _, p := range points {
		if !plainFormed(p) {
			t.Fatalf("the test's own point %s isn't formed", show(p))
		}
	}
	return points
}

// unformed are points that aren't formed: each of its kind, by its name.
func unformed(t *testing.T) map[string]api.Point {
	t.Helper()
	g := basePoint()
	p, most := nat(bigP), api.Nat{^uint64(0), ^uint64(0), ^uint64(0), ^uint64(0)}
	edges := edgePoints()
	above := func(a api.Nat) api.Nat { return nat(new(big.Int).Add(whole(a), bigP)) }
	points := map[string]api.Point{
		"noughts":                          {},
		"X and Y exchanged":                {X: g.Y, Y: g.X},
		"Y one more":                       {X: g.X, Y: offNat(bigY, 1)},
		"Y one less":                       {X: g.X, Y: offNat(bigY, -1)},
		"X one more":                       {X: offNat(bigX, 1), Y: g.Y},
		"no Y":                             {X: g.X},
		"no X":                             {Y: g.Y},
		"-X":                               {X: nat(new(big.Int).Sub(bigP, bigX)), Y: g.Y},
		"a bit of the top limb otherwise":  {X: g.X, Y: api.Nat{g.Y[0], g.Y[1], g.Y[2], g.Y[3] ^ 1<<63}},
		"X is p, Y that of 0":              {X: p, Y: edges[0].Y},
		"X is 5 + p, Y that of 5":          {X: above(edges[1].X), Y: edges[1].Y},
		"X is 2^256 - 2, a point modulo p": {X: above(edges[2].X), Y: edges[2].Y},
		"Y is 1 + p, a point modulo p":     {X: edges[3].X, Y: above(edges[3].Y)},
		"Y is 4 + p, a point modulo p":     {X: edges[4].X, Y: above(edges[4].Y)},
		"Y is 2^256 - 2, a point modulo p": {X: edges[5].X, Y: above(edges[5].Y)},
		"X at p":                           {X: p, Y: g.Y},
		"Y at p":                           {X: g.X, Y: p},
		"X at the most":                    {X: most, Y: g.Y},
		"Y at the most":                    {X: g.X, Y: most},
		"both at p":                        {X: p, Y: p},
		"both at the most":                 {X: most, Y: most},
		"None with an X":                   {X: api.Nat{1}, None: true},
		"None with a Y":                    {Y: api.Nat{1}, None: true},
		"None with a top bit of X":         {X: api.Nat{3: 1 << 63}, None: true},
		"None with a top bit of Y":         {Y: api.Nat{3: 1 << 63}, None: true},
		"None with the base point":         {X: g.X, Y: g.Y, None: true},
		"None with p for X":                {X: p, None: true},
		"None with p for Y":                {Y: p, None: true},
		"None with a point of X 0":         {Y: edges[0].Y, None: true},
	}
	for name, q := range points {
		if plainFormed(q) {
			t.Fatalf("%s: the test's own point %s is formed", name, show(q))
		}
	}
	return points
}

// edgeNats are numbers to multiply by, among them those that the curve's order makes special.
func edgeNats() []api.Nat {
	return []api.Nat{
		{0}, {1}, {2}, {3}, {4}, {5}, {7}, {8}, {15}, {16}, {17}, {1 << 63}, {0, 1}, {0, 0, 1}, {0, 0, 0, 1}, {0, 0, 0, 1 << 63},
		nat(new(big.Int).Rsh(bigN, 1)), offNat(new(big.Int).Rsh(bigN, 1), 1),
		offNat(bigN, -2), offNat(bigN, -1), nat(bigN), offNat(bigN, 1), offNat(bigN, 2),
		offNat(bigP, -1), nat(bigP), offNat(bigP, 1),
		{^uint64(0)}, {^uint64(0), ^uint64(0), ^uint64(0)},
		offNat(new(big.Int), -2), offNat(new(big.Int), -1),
	}
}

// show answers the point as a text, its numbers with hexadecimal digits.
func show(p api.Point) string {
	return fmt.Sprintf("(%064x, %064x, None %v)", whole(p.X), whole(p.Y), p.None)
}

// same holds a point to the one that is wanted.
func same(t *testing.T, what string, got, want api.Point) {
	t.Helper()
	if got != want {
		t.Errorf("%s: the point is %s, want %s", what, show(got), show(want))
	}
}

// P8.1: the base point is the chapter's, a formed one, the same each time, and what is done to an answer doesn't change the next.
func TestBase(t *testing.T) {
	g := Base()
	same(t, "Base", g, basePoint())
	if !Formed(g) {
		t.Error("the base point isn't formed")
	}
	g.X[0]++
	g.None = true
	same(t, "Base again", Base(), basePoint())
}

// P8.1: points of the curve, and the neutral one with noughts, are formed.
func TestFormed(t *testing.T) {
	for i, p := range formedPoints(t) {
		if !Formed(p) {
			t.Errorf("point %d, %s, isn't formed", i, show(p))
		}
	}
}

// P8.1: what isn't on the curve, not below p, or None with a number, isn't formed.
func TestNotFormed(t *testing.T) {
	for name, p := range unformed(t) {
		if Formed(p) {
			t.Errorf("%s: %s is formed", name, show(p))
		}
	}
	r := newRand()
	for range 200 {
		p := api.Point{X: someNat(r), Y: someNat(r), None: r.IntN(4) == 0}
		if Formed(p) != plainFormed(p) {
			t.Errorf("%s: Formed is %v", show(p), Formed(p))
		}
	}
}

// P8.1: each bit of a formed point counts.
func TestFormedBits(t *testing.T) {
	for _, p := range []api.Point{basePoint(), none, edgePoints()[0], edgePoints()[3]} {
		for i := range 512 {
			q := p
			if i < 256 {
				q.X[i/64] ^= 1 << (i % 64)
			} else {
				q.Y[i/64-4] ^= 1 << (i % 64)
			}
			if Formed(q) != plainFormed(q) || Formed(q) {
				t.Errorf("%s with the bit %d otherwise is formed", show(p), i)
			}
		}
	}
}

// P8.1: sums are those of the chapter's words, case by case: also of the neutral point, of mirrors, and of a point and itself.
func TestAdd(t *testing.T) {
	points := formedPoints(t)
	for i, p := range points {
		for j, q := range points {
			same(t, fmt.Sprintf("the points %d and %d", i, j), Add(p, q), plainAdd(p, q))
		}
	}
}

// P8.1: the neutral point changes nothing, on either side and on both; a point and its mirror make it.
func TestAddNeutral(t *testing.T) {
	same(t, "neutral and neutral", Add(none, none), none)
	for i, p := range formedPoints(t) {
		same(t, fmt.Sprintf("point %d and neutral", i), Add(p, none), p)
		same(t, fmt.Sprintf("neutral and point %d", i), Add(none, p), p)
		same(t, fmt.Sprintf("point %d and its mirror", i), Add(p, mirror(p)), none)
		same(t, fmt.Sprintf("point %d's mirror and it", i), Add(mirror(p), p), none)
	}
}

// P8.1: what isn't formed is taken for the neutral point, on either side, on both, and as what is multiplied.
func TestUnformedIsNeutral(t *testing.T) {
	g, q := basePoint(), edgePoints()[1]
	for name, p := range unformed(t) {
		same(t, name+": Add on the left", Add(p, g), g)
		same(t, name+": Add on the right", Add(g, p), g)
		same(t, name+": Add on both sides", Add(p, p), none)
		same(t, name+": Add with neutral", Add(none, p), none)
		same(t, name+": Add to neutral", Add(p, none), none)
		for _, k := range []api.Nat{{0}, {1}, {2}, {3}, offNat(bigN, -1), nat(bigN), offNat(bigN, 1), offNat(new(big.Int), -1)} {
			same(t, fmt.Sprintf("%s: %x times it", name, k), Mul(k, p), none)
		}
		same(t, name+": Both on the left", Both(api.Nat{3}, p, api.Nat{2}, q), plainAdd(q, q))
		same(t, name+": Both on the right", Both(api.Nat{2}, q, api.Nat{3}, p), plainAdd(q, q))
		same(t, name+": Both on both sides", Both(api.Nat{2}, p, api.Nat{3}, p), none)
		if got := Encode(p); !bytes.Equal(got, []byte{0}) {
			t.Errorf("%s: its bytes are %x, want one byte 0", name, got)
		}
	}
	for name, p := range unformed(t) {
		for other, q := range unformed(t) {
			same(t, name+" and "+other, Add(p, q), none)
		}
	}
}

// P8.1: known multiples of the base point.
func TestMulKnown(t *testing.T) {
	for _, c := range []struct {
		k    api.Nat
		x, y string
	}{
		{api.Nat{2}, "7cf27b188d034f7e8a52380304b51ac3c08969e277f21b35a60b48fc47669978", "07775510db8ed040293d9ac69f7430dbba7dade63ce982299e04b79d227873d1"},
		{api.Nat{3}, "5ecbe4d1a6330a44c8f7ef951d4bf165e6c6b721efada985fb41661bc6e7fd6c", "8734640c4998ff7e374b06ce1a64a2ecd82ab036384fb83d9a79b127a27d5032"},
		{api.Nat{4}, "e2534a3532d08fbba02dde659ee62bd0031fe2db785596ef509302446b030852", "e0f1575a4c633cc719dfee5fda862d764efc96c3f30ee0055c42c23f184ed8c6"},
	} {
		same(t, fmt.Sprintf("%x times the base point", c.k), Mul(c.k, Base()), api.Point{X: hexNat(c.x), Y: hexNat(c.y)})
	}
}

// P8.1: the example: 1 times the base point is it, n times it the neutral one; and what is about n.
func TestMulAboutTheOrder(t *testing.T) {
	for i, p := range formedPoints(t) {
		what := fmt.Sprintf("point %d times ", i)
		same(t, what+"0", Mul(api.Nat{}, p), none)
		same(t, what+"1", Mul(api.Nat{1}, p), p)
		same(t, what+"2", Mul(api.Nat{2}, p), plainAdd(p, p))
		same(t, what+"n - 1", Mul(offNat(bigN, -1), p), mirror(p))
		same(t, what+"n", Mul(nat(bigN), p), none)
		same(t, what+"n of layer 2", Mul(field.Modulus(1), p), none)
		same(t, what+"n + 1", Mul(offNat(bigN, 1), p), p)
		rest := new(big.Int).Lsh(big.NewInt(1), 256)
		rest.Sub(rest, big.NewInt(1)).Sub(rest, bigN)
		same(t, what+"2^256 - 1", Mul(offNat(new(big.Int), -1), p), plainMul(nat(rest), p))
	}
}

// P8.1: the multiples by 0 to 20 are the point, so often added to the neutral one.
func TestMulStepByStep(t *testing.T) {
	for i, p := range formedPoints(t) {
		all := none
		for k := range uint64(21) {
			same(t, fmt.Sprintf("%d times point %d", k, i), Mul(api.Nat{k}, p), all)
			all = plainAdd(all, p)
		}
	}
}

// P8.1: multiples are those of the chapter's words, of all edges and of numbers that follow no rule.
func TestMul(t *testing.T) {
	r := newRand()
	points := []api.Point{none, basePoint(), edgePoints()[0], edgePoints()[3], edgePoints()[6]}
	scalars := edgeNats()
	for range 10 {
		scalars = append(scalars, someNat(r))
	}
	for i, p := range points {
		for _, k := range scalars {
			same(t, fmt.Sprintf("%x times point %d", k, i), Mul(k, p), plainMul(k, p))
		}
	}
}

// P8.1: multiples by each power of two: each bit of the number counts.
func TestMulPowersOfTwo(t *testing.T) {
	p := edgePoints()[1]
	want := p
	for i := range 256 {
		var k api.Nat
		k[i/64] = 1 << (i % 64)
		same(t, fmt.Sprintf("2^%d times", i), Mul(k, p), want)
		want = plainAdd(want, want)
	}
}

// P8.1: the bytes of the base point's multiples, and so these, are those that the standard library makes.
func TestStandard(t *testing.T) {
	r := newRand()
	for range 100 {
		k := someNat(r)
		if whole(k).Cmp(bigN) >= 0 {
			continue
		}
		key, err := ecdh.P256().NewPrivateKey(whole(k).FillBytes(make([]byte, 32)))
		if err != nil {
			t.Fatal(err)
		}
		if got, want := Encode(Mul(k, Base())), key.PublicKey().Bytes(); !bytes.Equal(got, want) {
			t.Errorf("%x times the base point: its bytes are %x, want %x", k, got, want)
		}
	}
}

// P8.1: Both is the sum of both multiples, at all pairs of edges.
func TestBoth(t *testing.T) {
	points := []api.Point{none, basePoint(), edgePoints()[4]}
	scalars := []api.Nat{{0}, {1}, {2}, offNat(bigN, -1), nat(bigN), offNat(bigN, 1), offNat(new(big.Int), -1)}
	type multiple struct {
		k        api.Nat
		p, times api.Point
	}
	var all []multiple
	for _, p := range points {
		for _, k := range scalars {
			all = append(all, multiple{k, p, plainMul(k, p)})
		}
	}
	for i, a := range all {
		for j, b := range all {
			same(t, fmt.Sprintf("the multiples %d and %d", i, j), Both(a.k, a.p, b.k, b.p), plainAdd(a.times, b.times))
		}
	}
}

// P8.1: Both with a 0 on either side, with multiples of one point, of mirrors, and with the same multiple by two ways.
func TestBothEdges(t *testing.T) {
	r := newRand()
	for i, p := range formedPoints(t) {
		what := fmt.Sprintf("point %d: ", i)
		k := someNat(r)
		q := plainMul(api.Nat{5}, p)
		kp := plainMul(k, p)
		same(t, what+"0 on the left", Both(api.Nat{}, q, k, p), kp)
		same(t, what+"0 on the right", Both(k, p, api.Nat{}, q), kp)
		same(t, what+"0 on both sides", Both(api.Nat{}, p, api.Nat{}, q), none)
		same(t, what+"n on the left", Both(nat(bigN), q, k, p), kp)
		same(t, what+"n on the right", Both(k, p, nat(bigN), q), kp)
		same(t, what+"3 and 4 times one", Both(api.Nat{3}, p, api.Nat{4}, p), plainMul(api.Nat{7}, p))
		same(t, what+"the same multiples", Both(k, p, k, p), plainAdd(kp, kp))
		same(t, what+"10 times it and 2 times its fivefold", Both(api.Nat{10}, p, api.Nat{2}, q), plainMul(api.Nat{20}, p))
		same(t, what+"it and its mirror", Both(k, p, k, mirror(p)), none)
		same(t, what+"5 times it and its fivefold's mirror", Both(api.Nat{5}, p, api.Nat{1}, mirror(q)), none)
		same(t, what+"1 and n - 1", Both(api.Nat{1}, p, offNat(bigN, -1), p), none)
		same(t, what+"1 and n", Both(api.Nat{1}, p, nat(bigN), p), p)
		same(t, what+"2 and n - 1", Both(api.Nat{2}, p, offNat(bigN, -1), p), p)
		same(t, what+"n - 1 twice", Both(offNat(bigN, -1), p, offNat(bigN, -1), p), mirror(plainAdd(p, p)))
		same(t, what+"2^256 - 1 and 1", Both(offNat(new(big.Int), -1), p, api.Nat{1}, p), plainAdd(plainMul(offNat(new(big.Int), -1), p), p))
	}
}

// P8.1: Both with numbers and points that follow no rule.
func TestBothByChance(t *testing.T) {
	r := newRand()
	for range 20 {
		p, q := plainMul(someNat(r), basePoint()), plainMul(someNat(r), basePoint())
		u, v := someNat(r), someNat(r)
		same(t, fmt.Sprintf("%x and %x", u, v), Both(u, p, v, q), plainAdd(plainMul(u, p), plainMul(v, q)))
	}
}

// P8.2: sums hang on no order, and no brackets.
func TestGroup(t *testing.T) {
	points := append(formedPoints(t)[:10], mirror(basePoint()), mirror(edgePoints()[2]), api.Point{}, api.Point{X: api.Nat{1}, None: true})
	for i, p := range points {
		for j, q := range points {
			pq := Add(p, q)
			same(t, fmt.Sprintf("the points %d and %d in the other order", i, j), Add(q, p), pq)
			if !Formed(pq) {
				t.Errorf("the sum of the points %d and %d isn't formed", i, j)
			}
			for k, s := range points {
				same(t, fmt.Sprintf("the points %d, %d and %d with other brackets", i, j, k), Add(p, Add(q, s)), Add(pq, s))
			}
		}
	}
}

// P8.2: the sum of two multiples is the multiple by the sum, where that is below 2^256.
func TestMultiplesAddUp(t *testing.T) {
	r := newRand()
	limit := new(big.Int).Lsh(big.NewInt(1), 256)
	scalars := []api.Nat{
		{0}, {1}, {2}, {3}, {1 << 63}, nat(new(big.Int).Rsh(bigN, 1)), offNat(new(big.Int).Rsh(bigN, 1), 1), someNat(r),
		{0, 0, 0, 1 << 63}, offNat(new(big.Int).Lsh(big.NewInt(1), 255), -1), offNat(bigN, -1), nat(bigN), offNat(bigN, 1), offNat(new(big.Int), -1),
	}
	for i, p := range []api.Point{none, basePoint(), edgePoints()[5]} {
		for j, u := range scalars {
			up := Mul(u, p)
			for _, v := range scalars[:j+1] {
				sum := new(big.Int).Add(whole(u), whole(v))
				if sum.Cmp(limit) >= 0 {
					continue
				}
				what := fmt.Sprintf("%x and %x times point %d", u, v, i)
				want := Mul(nat(sum), p)
				same(t, what+" by Add", Add(up, Mul(v, p)), want)
				same(t, what+" by Both", Both(u, p, v, p), want)
			}
		}
	}
}

// P8.1: Encode answers 4, X's and Y's bytes, and a byte 0 of the neutral point.
func TestEncode(t *testing.T) {
	known, err := hex.DecodeString("046b17d1f2e12c4247f8bce6e563a440f277037d812deb33a0f4a13945d898c296" + "4fe342e2fe1a7f9b8ee7eb4a7c0f9e162bce33576b315ececbb6406837bf51f5")
	if err != nil {
		t.Fatal(err)
	}
	if got := Encode(Base()); !bytes.Equal(got, known) {
		t.Errorf("the base point's bytes are %x, want %x", got, known)
	}
	if got := Encode(none); !bytes.Equal(got, []byte{0}) {
		t.Errorf("the neutral point's bytes are %x, want one byte 0", got)
	}
	for i, p := range formedPoints(t) {
		if got := Encode(p); !bytes.Equal(got, plainEncode(p)) {
			t.Errorf("point %d: its bytes are %x, want %x", i, got, plainEncode(p))
		}
	}
}

// P8.1: what is encoded is decoded, and what is decoded, encoded again, is that.
func TestDecodeEncoded(t *testing.T) {
	for i, p := range formedPoints(t) {
		b := plainEncode(p)
		got, ok := Decode(b)
		if got != p || !ok {
			t.Errorf("point %d: decoded it is %s, %v", i, show(got), ok)
		}
		if again := Encode(got); !bytes.Equal(again, b) {
			t.Errorf("point %d: encoded again it is %x, want %x", i, again, b)
		}
	}
}

// refused holds Decode to the neutral point and false.
func refused(t *testing.T, what string, b []byte) {
	t.Helper()
	if p, ok := Decode(b); p != none || ok {
		t.Errorf("%s: decoded it is %s, %v, want the neutral point and false", what, show(p), ok)
	}
}

// P8.1: bytes of a wrong number are no point's.
func TestDecodeLengths(t *testing.T) {
	refused(t, "nil", nil)
	refused(t, "no bytes", []byte{})
	whole := plainEncode(basePoint())
	for n := range 200 {
		noughts := make([]byte, n)
		point := append(slices.Clone(whole), make([]byte, 200)...)[:n]
		if n != 1 {
			refused(t, fmt.Sprintf("%d bytes 0", n), noughts)
		}
		if n != len(whole) {
			refused(t, fmt.Sprintf("%d bytes of a point and noughts", n), point)
		}
		if n != 0 {
			refused(t, fmt.Sprintf("a byte 0 and %d bytes of a point", n), append([]byte{0}, point...))
		}
	}
	refused(t, "64 bytes without the first", whole[1:])
	refused(t, "a point twice", append(slices.Clone(whole), whole...))
}

// P8.1: a byte 0 is the neutral point's; no other byte is a point's, and no other first byte of 65 than 4.
func TestDecodeFirstByte(t *testing.T) {
	g := basePoint()
	for tag := range 256 {
		p, ok := Decode([]byte{byte(tag)})
		if p != none || ok != (tag == 0) {
			t.Errorf("one byte %d: decoded it is %s, %v", tag, show(p), ok)
		}
		if tag == 4 {
			continue
		}
		refused(t, fmt.Sprintf("65 bytes from %d on", tag), rawBytes(byte(tag), g.X, g.Y))
		refused(t, fmt.Sprintf("65 bytes from %d on, else 0", tag), rawBytes(byte(tag), api.Nat{}, api.Nat{}))
		refused(t, fmt.Sprintf("33 bytes from %d on", tag), rawBytes(byte(tag), g.X, g.Y)[:33])
	}
}

// P8.1: bytes of numbers at or above p, and of numbers that aren't on the curve, are no point's.
func TestDecodeUnformed(t *testing.T) {
	for name, p := range unformed(t) {
		if p.None && plainFormed(api.Point{X: p.X, Y: p.Y}) {
			continue // The bytes tell no None, and without it these are a point's.
		}
		refused(t, name, rawBytes(4, p.X, p.Y))
	}
}

// P8.1: each bit of a point's bytes counts.
func TestDecodeBits(t *testing.T) {
	for i := range 65 * 8 {
		b := plainEncode(basePoint())
		b[i/8] ^= 1 << (i % 8)
		refused(t, fmt.Sprintf("the base point with the bit %d otherwise", i), b)
	}
}

// R5: Decode leaves the bytes and their spare room as they are, and keeps none; Encode answers new memory each time.
func TestBytesStay(t *testing.T) {
	g := basePoint()
	for _, b := range [][]byte{plainEncode(g), {0}, {1}, {}, rawBytes(4, g.Y, g.X), rawBytes(5, g.X, g.Y), make([]byte, 64), make([]byte, 66)} {
		room := append(slices.Clone(b), 0xa5, 0x5a, 0xff)
		kept := slices.Clone(room)
		p, ok := Decode(room[:len(b)])
		if !bytes.Equal(room, kept) {
			t.Errorf("%x became %x", kept, room)
		}
		for i := range room {
			room[i] ^= 0xff
		}
		if q, again := Decode(kept[:len(b)]); p != q || ok != again {
			t.Errorf("%x: decoded again it is %s, %v, want %s, %v", b, show(q), again, show(p), ok)
		}
	}
	for _, p := range []api.Point{g, none, {}} {
		first := Encode(p)
		first[0] ^= 0xff
		_ = append(first[:cap(first)], 1)
		if got := Encode(p); !bytes.Equal(got, plainEncode(p)) {
			t.Errorf("%s: its bytes became %x", show(p), got)
		}
	}
}

// P2: the same calls have the same answers.
func TestAgain(t *testing.T) {
	p, q := edgePoints()[0], edgePoints()[3]
	u, v := someNat(newRand()), offNat(bigN, -7)
	sum, product, both := Add(p, q), Mul(u, p), Both(u, p, v, q)
	for range 3 {
		same(t, "Add again", Add(p, q), sum)
		same(t, "Mul again", Mul(u, p), product)
		same(t, "Both again", Both(u, p, v, q), both)
	}
}
