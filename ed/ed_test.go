package ed

import (
	"bytes"
	"crypto/ed25519"
	"crypto/sha512"
	"encoding/hex"
	"fmt"
	"math/big"
	"math/rand/v2"
	"slices"
	"testing"

	"chronicle/api"
	"chronicle/field"
)

// none is the neutral point.
var none = api.Point{Y: api.Nat{1}}

// The chapter's numbers: p and n as chapter 2 writes them, d and the base point's Y as this one does, each by its quotient.
var (
	bigP = new(big.Int).Sub(new(big.Int).Lsh(big.NewInt(1), 255), big.NewInt(19))
	bigN = new(big.Int).Add(new(big.Int).Lsh(big.NewInt(1), 252), number("27742317777372353535851937790883648493"))
	bigD = quotient(big.NewInt(-121665), big.NewInt(121666))
	bigY = quotient(big.NewInt(4), big.NewInt(5))
	bigX = number("15112221349535400772501151409588531511454012693041857206046113283949847762202")
)

func newRand() *rand.Rand { return rand.New(rand.NewPCG(9, 26)) }

// number answers the number of those decimal digits.
func number(digits string) *big.Int {
	a, ok := new(big.Int).SetString(digits, 10)
	if !ok {
		panic(digits)
	}
	return a
}

// quotient answers a / b modulo p, where b isn't 0 modulo p.
func quotient(a, b *big.Int) *big.Int {
	q := new(big.Int).ModInverse(new(big.Int).Mod(b, bigP), bigP)
	return q.Mul(q, a).Mod(q, bigP)
}

// product answers those numbers, multiplied.
func product(numbers ...*big.Int) *big.Int {
	all := big.NewInt(1)
	for _, a := range numbers {
		all.Mul(all, a)
	}
	return all
}

// nat answers a, which is from 0 to 2^256 - 1, as a Nat.
func nat(a *big.Int) api.Nat {
	var b [32]byte
	a.FillBytes(b[:])
	var limbs api.Nat
	for i, x := range b {
		limbs[3-i/8] = limbs[3-i/8]<<8 | uint64(x)
	}
	return limbs
}

// whole answers a as a number of math/big.
func whole(a api.Nat) *big.Int {
	all := new(big.Int)
	for i := len(a) - 1; i >= 0; i-- {
		all.Lsh(all, 64)
		all.Add(all, new(big.Int).SetUint64(a[i]))
	}
	return all
}

// hexNat answers the number of those hexadecimal digits.
func hexNat(digits string) api.Nat {
	a, ok := new(big.Int).SetString(digits, 16)
	if !ok {
		panic(digits)
	}
	return nat(a)
}

// unhex answers the bytes of those hexadecimal digits.
func unhex(digits string) []byte {
	b, err := hex.DecodeString(digits)
	if err != nil {
		panic(err)
	}
	return b
}

// someNat answers a number below 2^256 that follows no rule.
func someNat(r *rand.Rand) api.Nat {
	return api.Nat{r.Uint64(), r.Uint64(), r.Uint64(), r.Uint64()}
}

// offNat answers a + d modulo 2^256.
func offNat(a *big.Int, d int64) api.Nat {
	sum := new(big.Int).Add(a, big.NewInt(d))
	return nat(sum.Mod(sum, new(big.Int).Lsh(big.NewInt(1), 256)))
}

// most is 2^256 - 1.
func most() api.Nat {
	return offNat(new(big.Int), -1)
}

// plainFormed answers whether p is formed, as the chapter's words say.
func plainFormed(p api.Point) bool {
	x, y := whole(p.X), whole(p.Y)
	if p.None || x.Cmp(bigP) >= 0 || y.Cmp(bigP) >= 0 {
		return false
	}
	xx, yy := product(x, x), product(y, y)
	rest := new(big.Int).Sub(yy, xx)
	rest.Sub(rest, big.NewInt(1)).Sub(rest, product(bigD, xx, yy))
	return rest.Mod(rest, bigP).Sign() == 0
}

// plainAdd answers p and q, added as the chapter's words say.
func plainAdd(p, q api.Point) api.Point {
	if !plainFormed(p) {
		p = none
	}
	if !plainFormed(q) {
		q = none
	}
	x1, y1, x2, y2 := whole(p.X), whole(p.Y), whole(q.X), whole(q.Y)
	t := product(bigD, x1, x2, y1, y2)
	more, less := new(big.Int).Add(big.NewInt(1), t), new(big.Int).Sub(big.NewInt(1), t)
	x := new(big.Int).Add(product(x1, y2), product(x2, y1))
	y := new(big.Int).Add(product(y1, y2), product(x1, x2))
	return api.Point{X: nat(quotient(x, more)), Y: nat(quotient(y, less))}
}

// plainMul answers k times p, by plainAdd alone.
func plainMul(k api.Nat, p api.Point) api.Point {
	all, e := none, whole(k)
	for i := e.BitLen() - 1; i >= 0; i-- {
		all = plainAdd(all, all)
		if e.Bit(i) == 1 {
			all = plainAdd(all, p)
		}
	}
	return all
}

// plainEncode answers the bytes of p, as the chapter's words say.
func plainEncode(p api.Point) []byte {
	if !plainFormed(p) {
		p = none
	}
	return rawBytes(p.Y, p.X[0]%2 == 1)
}

// rawBytes answers the bytes of y, the least one first, and 128 more in the last one if odd, be they a point's or not.
func rawBytes(y api.Nat, odd bool) []byte {
	b := whole(y).FillBytes(make([]byte, 32))
	slices.Reverse(b)
	if odd {
		b[31] += 128
	}
	return b
}

// plainDecode answers the formed point whose bytes b is, if there is one, as the chapter's words say.
func plainDecode(b []byte) (api.Point, bool) {
	if len(b) != 32 {
		return none, false
	}
	reversed := slices.Clone(b)
	slices.Reverse(reversed)
	odd := reversed[0] >= 128
	reversed[0] %= 128
	y := new(big.Int).SetBytes(reversed)
	yy := product(y, y)
	down := new(big.Int).Add(product(bigD, yy), big.NewInt(1))
	x := new(big.Int).ModSqrt(quotient(yy.Sub(yy, big.NewInt(1)), down), bigP)
	if x == nil || y.Cmp(bigP) >= 0 {
		return none, false
	}
	p := api.Point{X: nat(x), Y: nat(y)}
	for _, q := range []api.Point{p, mirror(p)} {
		if (q.X[0]%2 == 1) == odd {
			return q, true
		}
	}
	return none, false
}

// mirror answers (-X, Y).
func mirror(p api.Point) api.Point {
	x := new(big.Int).Neg(whole(p.X))
	p.X = nat(x.Mod(x, bigP))
	return p
}

// basePoint answers the chapter's base point.
func basePoint() api.Point {
	return api.Point{X: nat(bigX), Y: nat(bigY)}
}

// smallPoints are the points of small order but the neutral one: one of the order 8, and its multiples.
func smallPoints(t *testing.T) []api.Point {
	t.Helper()
	p := api.Point{X: hexNat("1fd5b9a006394a28e933993238de4abb5c193c7013e5e238dea14646c545d14a"), Y: hexNat("7a03ac9277fdc74ec6cc392cfa53202a0f67100d760b3cba4fd84d3d706a17c7")}
	var points []api.Point
	for q := p; q != none; q = plainAdd(q, p) {
		points = append(points, q)
		if len(points) > 7 {
			t.Fatal("the test's own point isn't of the order 8")
		}
	}
	return points
}

// edgePoints are formed points whose X or Y is small, or just below p.
func edgePoints() []api.Point {
	return []api.Point{
		{X: hexNat("2b8324804fc1df0b2b4d00993dfbd7a72f431806ad2fe478c4ee1b274a0ea0b0"), Y: api.Nat{0}},
		{X: hexNat("1701402bd9ec9f710bb750a74e10d7cee3f269b422cf43f8010919e0fe51fa0b"), Y: api.Nat{3}},
		{X: hexNat("39e8de022843ea4143492000186c743038946464dfed44d42df3860bf9a45a2e"), Y: api.Nat{4}},
		{X: hexNat("372c8c265033bde4ac31a02e8603e318807267178b902c228b364585ed1cf028"), Y: api.Nat{18}},
		{X: hexNat("25f51bd23ac48cbf5194a816c5edd9e57f573a5616033adcadcc2f619566ad05"), Y: api.Nat{19}},
		{X: hexNat("14e497ea881dcb62a15fdd69e9d39910bf4ad6a9f3965df32ad396186c454567"), Y: api.Nat{37}},
		{X: api.Nat{2}, Y: hexNat("1a43bf127bddc4d71ff910403c11ddb5ba2bcdd2815393924657ef111e712631")},
		{X: api.Nat{7}, Y: hexNat("49f7f1c8e0a32fe8849573ea9b7d7e1c30f7b7ca319790340e5433fce7fc8feb")},
		{X: hexNat("68febfd42613608ef448af58b1ef28311c0d964bdd30bc07fef6e61f01ae05e2"), Y: offNat(bigP, -3)},
		{X: api.Nat{0}, Y: offNat(bigP, -1)},
	}
}

// formedPoints are the neutral point, the base point, the edges, some multiples, the points of small order, a sum of one
// of them and the base point, and the mirrors of all of them.
func formedPoints(t *testing.T) []api.Point {
	t.Helper()
	points := append([]api.Point{none, basePoint()}, edgePoints()...)
	r := newRand()
	for _, k := range []api.Nat{{2}, {3}, {4}, someNat(r), someNat(r)} {
		points = append(points, plainMul(k, basePoint()))
	}
	small := smallPoints(t)
	points = append(points, small...)
	points = append(points, plainAdd(basePoint(), small[0]), plainAdd(basePoint(), edgePoints()[9]))
	for _, p := range slices.Clone(points[1:]) {
		points = append(points, mirror(p))
	}
	for _, p := range points {
		if !plainFormed(p) {
			t.Fatalf("the test's own point %s isn't formed", show(p))
		}
	}
	return points
}

// unformed are points that aren't formed: each of its kind, by its name.
func unformed(t *testing.T) map[string]api.Point {
	t.Helper()
	g, p, edges := basePoint(), nat(bigP), edgePoints()
	above := func(a api.Nat) api.Nat { return nat(new(big.Int).Add(whole(a), bigP)) }
	points := map[string]api.Point{
		"noughts":                         {},
		"X and Y exchanged":               {X: g.Y, Y: g.X},
		"X one more":                      {X: offNat(bigX, 1), Y: g.Y},
		"X one less":                      {X: offNat(bigX, -1), Y: g.Y},
		"Y one more":                      {X: g.X, Y: offNat(bigY, 1)},
		"Y one less":                      {X: g.X, Y: offNat(bigY, -1)},
		"no Y":                            {X: g.X},
		"no X":                            {Y: g.Y},
		"X 1, Y 0":                        {X: api.Nat{1}},
		"X 1, Y 1":                        {X: api.Nat{1}, Y: api.Nat{1}},
		"X the same as Y":                 {X: edges[0].X, Y: edges[0].X},
		"the X of 4 beside 3":             {X: edges[2].X, Y: edges[1].Y},
		"X at p beside 1":                 {X: p, Y: api.Nat{1}},
		"X at 2 p beside 1":               {X: above(p), Y: api.Nat{1}},
		"X at p beside -1":                {X: p, Y: edges[9].Y},
		"X above p, the base point's":     {X: above(g.X), Y: g.Y},
		"X is 2 + p, a point modulo p":    {X: above(edges[6].X), Y: edges[6].Y},
		"X is 7 + 2 p, a point modulo p":  {X: above(above(edges[7].X)), Y: edges[7].Y},
		"Y is p, a point modulo p":        {X: edges[0].X, Y: p},
		"Y is 2 p, a point modulo p":      {X: edges[0].X, Y: above(p)},
		"Y is 1 + p, neutral modulo p":    {Y: above(api.Nat{1})},
		"Y is 1 + 2 p, neutral modulo p":  {Y: above(above(api.Nat{1}))},
		"Y is 2 p - 1, a point modulo p":  {Y: above(edges[9].Y)},
		"Y is 3 + p, a point modulo p":    {X: edges[1].X, Y: above(edges[1].Y)},
		"Y is 2^255 - 1, a point":         {X: edges[3].X, Y: above(edges[3].Y)},
		"Y is 2^255, a point":             {X: edges[4].X, Y: above(edges[4].Y)},
		"Y is 2^256 - 1, a point":         {X: edges[5].X, Y: above(above(edges[5].Y))},
		"Y above p, the base point's":     {X: g.X, Y: above(g.Y)},
		"both above p, the base point's":  {X: above(g.X), Y: above(g.Y)},
		"both at p":                       {X: p, Y: p},
		"both at the most":                {X: most(), Y: most()},
		"a bit of the top limb otherwise": {X: g.X, Y: api.Nat{g.Y[0], g.Y[1], g.Y[2], g.Y[3] ^ 1<<63}},
		"None with noughts":               {None: true},
		"None with the neutral point":     {Y: api.Nat{1}, None: true},
		"None with the base point":        {X: g.X, Y: g.Y, None: true},
		"None with a point of Y 3":        {X: edges[1].X, Y: edges[1].Y, None: true},
		"None with (0, -1)":               {Y: edges[9].Y, None: true},
		"None with an X":                  {X: api.Nat{1}, None: true},
		"None with p for both":            {X: p, Y: p, None: true},
	}
	for name, q := range points {
		if plainFormed(q) {
			t.Fatalf("%s: the test's own point %s is formed", name, show(q))
		}
	}
	return points
}

// edgeNats are numbers to multiply by, among them those that the group's order makes special.
func edgeNats() []api.Nat {
	eight := new(big.Int).Lsh(bigN, 3)
	return []api.Nat{
		{0}, {1}, {2}, {3}, {4}, {5}, {7}, {8}, {9}, {15}, {16}, {17}, {1 << 63}, {0, 1}, {0, 0, 1}, {0, 0, 0, 1}, {0, 0, 0, 1 << 63},
		nat(new(big.Int).Rsh(bigN, 1)), offNat(new(big.Int).Rsh(bigN, 1), 1),
		offNat(bigN, -2), offNat(bigN, -1), nat(bigN), offNat(bigN, 1), offNat(bigN, 2),
		offNat(eight, -1), nat(eight), offNat(eight, 1),
		offNat(bigP, -1), nat(bigP), offNat(bigP, 1),
		{^uint64(0)}, {^uint64(0), ^uint64(0), ^uint64(0)},
		offNat(new(big.Int), -2), most(),
	}
}

// show answers the point as a text, its numbers with hexadecimal digits.
func show(p api.Point) string {
	return fmt.Sprintf("(%064x, %064x, None %v)", whole(p.X), whole(p.Y), p.None)
}

// same holds a point to the one that is wanted.
func same(t *testing.T, what string, got, want api.Point) {
	t.Helper()
	if got != want {
		t.Errorf("%s: the point is %s, want %s", what, show(got), show(want))
	}
}

// P9.1: the base point is the chapter's, with the Y 4 / 5 and an even X, the same each time, and what is done to an answer
// doesn't change the next.
func TestBase(t *testing.T) {
	g := Base()
	same(t, "Base", g, basePoint())
	if !Formed(g) || !plainFormed(g) {
		t.Error("the base point isn't formed")
	}
	if g.X[0]%2 != 0 {
		t.Error("the base point's X is odd")
	}
	if field.Mul(2, g.Y, api.Nat{5}) != (api.Nat{4}) {
		t.Error("the base point's Y isn't 4 / 5")
	}
	g.X[0]++
	g.None = true
	same(t, "Base again", Base(), basePoint())
}

// P9.1: points of the curve are formed, the neutral one and those of small order among them.
func TestFormed(t *testing.T) {
	for i, p := range formedPoints(t) {
		if !Formed(p) {
			t.Errorf("point %d, %s, isn't formed", i, show(p))
		}
	}
}

// P9.1: what isn't on the curve, not below p, or None, isn't formed.
func TestNotFormed(t *testing.T) {
	for name, p := range unformed(t) {
		if Formed(p) {
			t.Errorf("%s: %s is formed", name, show(p))
		}
	}
	for _, p := range formedPoints(t) {
		p.None = true
		if Formed(p) {
			t.Errorf("%s is formed", show(p))
		}
	}
	r := newRand()
	for range 200 {
		p := api.Point{X: someNat(r), Y: someNat(r), None: r.IntN(4) == 0}
		if Formed(p) != plainFormed(p) {
			t.Errorf("%s: Formed is %v", show(p), Formed(p))
		}
	}
}

// P9.1: each bit of a formed point counts.
func TestFormedBits(t *testing.T) {
	for _, p := range []api.Point{basePoint(), none, edgePoints()[1], edgePoints()[9]} {
		for i := range 512 {
			q := p
			if i < 256 {
				q.X[i/64] ^= 1 << (i % 64)
			} else {
				q.Y[i/64-4] ^= 1 << (i % 64)
			}
			if Formed(q) || plainFormed(q) {
				t.Errorf("%s with the bit %d otherwise is formed", show(p), i)
			}
		}
	}
}

// P9.1: sums are those of the chapter's words: also of the neutral point, of mirrors, of a point and itself, and of points of small order.
func TestAdd(t *testing.T) {
	points := formedPoints(t)
	for i, p := range points {
		for j, q := range points {
			same(t, fmt.Sprintf("the points %d and %d", i, j), Add(p, q), plainAdd(p, q))
		}
	}
}

// P9.1: the neutral point changes nothing, on either side and on both; a point and its mirror make it.
func TestAddNeutral(t *testing.T) {
	same(t, "neutral and neutral", Add(none, none), none)
	for i, p := range formedPoints(t) {
		same(t, fmt.Sprintf("point %d and neutral", i), Add(p, none), p)
		same(t, fmt.Sprintf("neutral and point %d", i), Add(none, p), p)
		same(t, fmt.Sprintf("point %d and its mirror", i), Add(p, mirror(p)), none)
		same(t, fmt.Sprintf("point %d's mirror and it", i), Add(mirror(p), p), none)
	}
}

// P9.1: (0, -1), added, turns X and Y about; twice it is the neutral point, and so it is with all others of small order, eight times.
func TestSmallOrder(t *testing.T) {
	half := edgePoints()[9]
	same(t, "(0, -1) twice", Add(half, half), none)
	for i, p := range formedPoints(t) {
		y := new(big.Int).Sub(bigP, whole(p.Y))
		turned := api.Point{X: mirror(p).X, Y: nat(y.Mod(y, bigP))}
		same(t, fmt.Sprintf("point %d and (0, -1)", i), Add(p, half), turned)
		same(t, fmt.Sprintf("(0, -1) and point %d", i), Add(half, p), turned)
	}
	small := smallPoints(t)
	if len(small) != 7 || small[3] != half {
		t.Fatalf("there are %d points of small order", len(small))
	}
	for i, p := range small {
		what := fmt.Sprintf("point %d of small order times ", i+1)
		same(t, what+"8", Mul(api.Nat{8}, p), none)
		same(t, what+"7", Mul(api.Nat{7}, p), mirror(p))
		same(t, what+"9", Mul(api.Nat{9}, p), p)
		for k := range uint64(8) {
			want := none
			if at := (i + 1) * int(k) % 8; at > 0 {
				want = small[at-1]
			}
			same(t, fmt.Sprintf("%s%d", what, k), Mul(api.Nat{k}, p), want)
		}
		if Mul(nat(bigN), p) == none {
			t.Errorf("%sn is the neutral point", what)
		}
	}
}

// P9.1: what isn't formed is taken for the neutral point, on either side, on both, and as what is multiplied.
func TestUnformedIsNeutral(t *testing.T) {
	g, q := basePoint(), edgePoints()[1]
	neutralBytes := append([]byte{1}, make([]byte, 31)...)
	for name, p := range unformed(t) {
		same(t, name+": Add on the left", Add(p, g), g)
		same(t, name+": Add on the right", Add(g, p), g)
		same(t, name+": Add on both sides", Add(p, p), none)
		same(t, name+": Add with neutral", Add(none, p), none)
		same(t, name+": Add to neutral", Add(p, none), none)
		for _, k := range []api.Nat{{0}, {1}, {2}, {3}, offNat(bigN, -1), nat(bigN), offNat(bigN, 1), most()} {
			same(t, fmt.Sprintf("%s: %x times it", name, k), Mul(k, p), none)
		}
		same(t, name+": Both on the left", Both(api.Nat{3}, p, api.Nat{2}, q), plainAdd(q, q))
		same(t, name+": Both on the right", Both(api.Nat{2}, q, api.Nat{3}, p), plainAdd(q, q))
		same(t, name+": Both on both sides", Both(api.Nat{2}, p, api.Nat{3}, p), none)
		if got := Encode(p); !bytes.Equal(got, neutralBytes) {
			t.Errorf("%s: its bytes are %x, want 1 and noughts", name, got)
		}
	}
	for name, p := range unformed(t) {
		for other, q := range unformed(t) {
			same(t, name+" and "+other, Add(p, q), none)
		}
	}
}

// P9.1: the bytes of known multiples of the base point.
func TestMulKnown(t *testing.T) {
	for _, c := range []struct {
		k     api.Nat
		bytes string
	}{
		{api.Nat{1}, "5866666666666666666666666666666666666666666666666666666666666666"},
		{api.Nat{2}, "c9a3f86aae465f0e56513864510f3997561fa2c9e85ea21dc2292309f3cd6022"},
		{api.Nat{3}, "d4b4f5784868c3020403246717ec169ff79e26608ea126a1ab69ee77d1b16712"},
	} {
		if got := Encode(Mul(c.k, Base())); !bytes.Equal(got, unhex(c.bytes)) {
			t.Errorf("%x times the base point: its bytes are %x, want %s", c.k, got, c.bytes)
		}
	}
}

// P9.1, P9.2: n times the base point, and what is of its multiples, is the neutral one; and what is about n, of all points.
func TestMulAboutTheOrder(t *testing.T) {
	for i, p := range formedPoints(t) {
		what := fmt.Sprintf("point %d times ", i)
		np := plainMul(nat(bigN), p)
		same(t, what+"0", Mul(api.Nat{}, p), none)
		same(t, what+"1", Mul(api.Nat{1}, p), p)
		same(t, what+"2", Mul(api.Nat{2}, p), plainAdd(p, p))
		same(t, what+"n - 1", Mul(offNat(bigN, -1), p), plainAdd(np, mirror(p)))
		same(t, what+"n", Mul(field.Modulus(3), p), np)
		same(t, what+"n + 1", Mul(offNat(bigN, 1), p), plainAdd(np, p))
		same(t, what+"8 n", Mul(nat(new(big.Int).Lsh(bigN, 3)), p), none)
		same(t, what+"2^256 - 1", Mul(most(), p), plainMul(most(), p))
	}
	r := newRand()
	same(t, "n times the base point", Mul(field.Modulus(3), Base()), none)
	for _, k := range []api.Nat{{2}, {8}, someNat(r), someNat(r), most()} {
		same(t, fmt.Sprintf("n times %x times the base point", k), Mul(field.Modulus(3), Mul(k, Base())), none)
	}
}

// P9.1: the multiples by 0 to 12 are the point, so often added to the neutral one.
func TestMulStepByStep(t *testing.T) {
	for i, p := range formedPoints(t) {
		all := none
		for k := range uint64(13) {
			same(t, fmt.Sprintf("%d times point %d", k, i), Mul(api.Nat{k}, p), all)
			all = plainAdd(all, p)
		}
	}
}

// P9.1: multiples are those of the chapter's words, of all edges and of numbers that follow no rule.
func TestMul(t *testing.T) {
	r := newRand()
	points := []api.Point{none, basePoint(), edgePoints()[2], edgePoints()[6], smallPoints(t)[0]}
	scalars := edgeNats()
	for range 6 {
		scalars = append(scalars, someNat(r))
	}
	for i, p := range points {
		for _, k := range scalars {
			same(t, fmt.Sprintf("%x times point %d", k, i), Mul(k, p), plainMul(k, p))
		}
	}
}

// P9.1: multiples by each power of two: each bit of the number counts.
func TestMulPowersOfTwo(t *testing.T) {
	p := edgePoints()[1]
	want := p
	for i := range 256 {
		var k api.Nat
		k[i/64] = 1 << (i % 64)
		same(t, fmt.Sprintf("2^%d times", i), Mul(k, p), want)
		want = plainAdd(want, want)
	}
}

// P9.1: the bytes of the base point's multiples are those that the standard library makes of a seed.
func TestStandard(t *testing.T) {
	r := newRand()
	for range 60 {
		seed := rawBytes(someNat(r), false)
		hash := sha512.Sum512(seed)
		low := slices.Clone(hash[:32])
		low[0] &= 248
		low[31] = low[31]&127 | 64
		slices.Reverse(low)
		k := nat(new(big.Int).SetBytes(low))
		want := ed25519.NewKeyFromSeed(seed)[32:]
		if got := Encode(Mul(k, Base())); !bytes.Equal(got, want) {
			t.Errorf("%x times the base point: its bytes are %x, want %x", k, got, want)
		}
	}
}

// P9.1: Both is the sum of both multiples, at all pairs of edges.
func TestBoth(t *testing.T) {
	points := []api.Point{none, basePoint(), edgePoints()[4]}
	scalars := []api.Nat{{0}, {1}, {2}, offNat(bigN, -1), nat(bigN), offNat(bigN, 1), most()}
	type multiple struct {
		k        api.Nat
		p, times api.Point
	}
	var all []multiple
	for _, p := range points {
		for _, k := range scalars {
			all = append(all, multiple{k, p, plainMul(k, p)})
		}
	}
	for i, a := range all {
		for j, b := range all {
			same(t, fmt.Sprintf("the multiples %d and %d", i, j), Both(a.k, a.p, b.k, b.p), plainAdd(a.times, b.times))
		}
	}
}

// P9.1: Both with a 0 on either side, with multiples of one point, of mirrors, and with the same multiple by two ways.
func TestBothEdges(t *testing.T) {
	r := newRand()
	eight := new(big.Int).Lsh(bigN, 3)
	for i, p := range formedPoints(t)[:26] {
		what := fmt.Sprintf("point %d: ", i)
		k := someNat(r)
		q := plainMul(api.Nat{5}, p)
		kp := plainMul(k, p)
		same(t, what+"0 on the left", Both(api.Nat{}, q, k, p), kp)
		same(t, what+"0 on the right", Both(k, p, api.Nat{}, q), kp)
		same(t, what+"0 on both sides", Both(api.Nat{}, p, api.Nat{}, q), none)
		same(t, what+"8 n on the left", Both(nat(eight), q, k, p), kp)
		same(t, what+"8 n on the right", Both(k, p, nat(eight), q), kp)
		same(t, what+"3 and 4 times one", Both(api.Nat{3}, p, api.Nat{4}, p), plainMul(api.Nat{7}, p))
		same(t, what+"the same multiples", Both(k, p, k, p), plainAdd(kp, kp))
		same(t, what+"10 times it and 2 times its fivefold", Both(api.Nat{10}, p, api.Nat{2}, q), plainMul(api.Nat{20}, p))
		same(t, what+"it and its mirror", Both(k, p, k, mirror(p)), none)
		same(t, what+"5 times it and its fivefold's mirror", Both(api.Nat{5}, p, api.Nat{1}, mirror(q)), none)
		same(t, what+"1 and 8 n - 1", Both(api.Nat{1}, p, offNat(eight, -1), p), none)
		same(t, what+"2 and 8 n - 1", Both(api.Nat{2}, p, offNat(eight, -1), p), p)
		same(t, what+"2^256 - 1 and 1", Both(most(), p, api.Nat{1}, p), plainAdd(plainMul(most(), p), p))
	}
	g := basePoint()
	same(t, "1 and n - 1 times the base point", Both(api.Nat{1}, g, offNat(bigN, -1), g), none)
	same(t, "n and 1 times the base point", Both(nat(bigN), g, api.Nat{1}, g), g)
}

// P9.1: Both with numbers and points that follow no rule.
func TestBothByChance(t *testing.T) {
	r := newRand()
	for range 15 {
		p, q := plainMul(someNat(r), basePoint()), plainMul(someNat(r), edgePoints()[3])
		u, v := someNat(r), someNat(r)
		same(t, fmt.Sprintf("%x and %x", u, v), Both(u, p, v, q), plainAdd(plainMul(u, p), plainMul(v, q)))
	}
}

// P9.2: sums hang on no order, and no brackets.
func TestGroup(t *testing.T) {
	small := smallPoints(t)
	points := append(formedPoints(t)[:8], mirror(basePoint()), small[0], small[1], small[3], small[6], api.Point{}, api.Point{X: api.Nat{1}, None: true})
	for i, p := range points {
		for j, q := range points {
			pq := Add(p, q)
			same(t, fmt.Sprintf("the points %d and %d in the other order", i, j), Add(q, p), pq)
			if !Formed(pq) {
				t.Errorf("the sum of the points %d and %d isn't formed", i, j)
			}
			for k, s := range points {
				same(t, fmt.Sprintf("the points %d, %d and %d with other brackets", i, j, k), Add(p, Add(q, s)), Add(pq, s))
			}
		}
	}
}

// P9.2: the sum of two multiples is the multiple by the sum, where that is below 2^256.
func TestMultiplesAddUp(t *testing.T) {
	r := newRand()
	limit := new(big.Int).Lsh(big.NewInt(1), 256)
	scalars := []api.Nat{
		{0}, {1}, {2}, {1 << 63}, nat(new(big.Int).Rsh(bigN, 1)), offNat(new(big.Int).Rsh(bigN, 1), 1), someNat(r),
		{0, 0, 0, 1 << 63}, offNat(new(big.Int).Lsh(big.NewInt(1), 255), -1), offNat(bigN, -1), nat(bigN), offNat(bigN, 1), most(),
	}
	for i, p := range []api.Point{none, basePoint(), edgePoints()[5], smallPoints(t)[4]} {
		for j, u := range scalars {
			up := Mul(u, p)
			for _, v := range scalars[:j+1] {
				sum := new(big.Int).Add(whole(u), whole(v))
				if sum.Cmp(limit) >= 0 {
					continue
				}
				what := fmt.Sprintf("%x and %x times point %d", u, v, i)
				want := Mul(nat(sum), p)
				same(t, what+" by Add", Add(up, Mul(v, p)), want)
				same(t, what+" by Both", Both(u, p, v, p), want)
			}
		}
	}
}

// P9.1: Encode answers Y's bytes, the least one first, and 128 more in the last one if X is odd.
func TestEncode(t *testing.T) {
	even := append([]byte{88}, bytes.Repeat([]byte{102}, 31)...)
	if got := Encode(Base()); !bytes.Equal(got, even) {
		t.Errorf("the base point's bytes are %x, want %x", got, even)
	}
	odd := append([]byte{88}, append(bytes.Repeat([]byte{102}, 30), 102+128)...)
	if got := Encode(mirror(Base())); !bytes.Equal(got, odd) {
		t.Errorf("the bytes of the base point's mirror are %x, want %x", got, odd)
	}
	if got, want := Encode(none), append([]byte{1}, make([]byte, 31)...); !bytes.Equal(got, want) {
		t.Errorf("the neutral point's bytes are %x, want %x", got, want)
	}
	for i, p := range formedPoints(t) {
		if got := Encode(p); !bytes.Equal(got, plainEncode(p)) {
			t.Errorf("point %d: its bytes are %x, want %x", i, got, plainEncode(p))
		}
	}
}

// P9.1: what is encoded is decoded, and what is decoded, encoded again, is that.
func TestDecodeEncoded(t *testing.T) {
	for i, p := range formedPoints(t) {
		b := plainEncode(p)
		got, ok := Decode(b)
		if got != p || !ok {
			t.Errorf("point %d: decoded it is %s, %v", i, show(got), ok)
		}
		if again := Encode(got); !bytes.Equal(again, b) {
			t.Errorf("point %d: encoded again it is %x, want %x", i, again, b)
		}
	}
}

// refused holds Decode to the neutral point and false.
func refused(t *testing.T, what string, b []byte) {
	t.Helper()
	if p, ok := Decode(b); p != none || ok {
		t.Errorf("%s: decoded it is %s, %v, want the neutral point and false", what, show(p), ok)
	}
}

// P9.1: bytes of a wrong number are no point's.
func TestDecodeLengths(t *testing.T) {
	refused(t, "nil", nil)
	refused(t, "no bytes", []byte{})
	for _, p := range []api.Point{basePoint(), none, edgePoints()[0]} {
		b := append(plainEncode(p), make([]byte, 100)...)
		for n := range b {
			if n != 32 {
				refused(t, fmt.Sprintf("%d bytes of a point and noughts", n), b[:n])
			}
		}
		refused(t, "31 bytes without the first", b[1:32])
		refused(t, "a nought and a point", append([]byte{0}, b[:32]...))
		refused(t, "a point twice", append(slices.Clone(b[:32]), b[:32]...))
	}
}

// P9.1: a Y at or above p is no point's, with the 128 more and without, be it a point's modulo p or not.
func TestDecodeAboveP(t *testing.T) {
	for y := range int64(19) {
		for _, odd := range []bool{false, true} {
			refused(t, fmt.Sprintf("Y %d above p, odd %v", y, odd), rawBytes(offNat(bigP, y), odd))
		}
	}
}

// P9.1: every Y from 0 to 60 and from p - 60 to p - 1 has the points that the chapter's words say, or none.
func TestDecodeAboutTheEnds(t *testing.T) {
	counts := map[bool]int{}
	for y := range int64(61) {
		for _, odd := range []bool{false, true} {
			decodes(t, rawBytes(api.Nat{uint64(y)}, odd), counts)
			if y > 0 {
				decodes(t, rawBytes(offNat(bigP, -y), odd), counts)
			}
		}
	}
	if counts[true] < 60 || counts[false] < 60 {
		t.Errorf("there are %d points, and %d that are none", counts[true], counts[false])
	}
}

// decodes holds Decode to the chapter's words, and Encode to b, where it is a point's.
func decodes(t *testing.T, b []byte, counts map[bool]int) {
	t.Helper()
	want, wantOK := plainDecode(b)
	got, ok := Decode(b)
	if got != want || ok != wantOK {
		t.Errorf("%x: decoded it is %s, %v, want %s, %v", b, show(got), ok, show(want), wantOK)
	}
	if again := Encode(got); ok && !bytes.Equal(again, b) {
		t.Errorf("%x: encoded again it is %x", b, again)
	}
	counts[ok]++
}

// P9.1: 32 bytes that follow no rule are the point that the chapter's words say, or none.
func TestDecodeByChance(t *testing.T) {
	r := newRand()
	counts := map[bool]int{}
	for range 500 {
		decodes(t, rawBytes(someNat(r), false), counts)
	}
	if counts[true] < 200 || counts[false] < 200 {
		t.Errorf("there are %d points, and %d that are none", counts[true], counts[false])
	}
}

// P9.1: the Y 2 has no X; the Ys 1 and -1 have the X 0 alone, which isn't odd.
func TestDecodeNoX(t *testing.T) {
	refused(t, "Y 2", rawBytes(api.Nat{2}, false))
	refused(t, "Y 2, odd", rawBytes(api.Nat{2}, true))
	for _, p := range []api.Point{none, edgePoints()[9]} {
		if got, ok := Decode(rawBytes(p.Y, false)); got != p || !ok {
			t.Errorf("%s: decoded it is %s, %v", show(p), show(got), ok)
		}
		refused(t, show(p)+" with the 128 more", rawBytes(p.Y, true))
	}
}

// P9.1: the 128 more is the point's mirror.
func TestDecodeMirror(t *testing.T) {
	for i, p := range formedPoints(t) {
		if whole(p.X).Sign() == 0 {
			continue
		}
		b := plainEncode(p)
		b[31] ^= 128
		if got, ok := Decode(b); got != mirror(p) || !ok {
			t.Errorf("point %d: its mirror is %s, %v", i, show(got), ok)
		}
	}
}

// R5: Decode leaves the bytes and their spare room as they are, and keeps none; Encode answers new memory each time.
func TestBytesStay(t *testing.T) {
	g := basePoint()
	for _, b := range [][]byte{plainEncode(g), plainEncode(mirror(g)), {}, rawBytes(api.Nat{1}, true), rawBytes(api.Nat{2}, true), rawBytes(most(), false), make([]byte, 31), make([]byte, 33)} {
		room := append(slices.Clone(b), 0xa5, 0x5a, 0xff)
		kept := slices.Clone(room)
		p, ok := Decode(room[:len(b)])
		if !bytes.Equal(room, kept) {
			t.Errorf("%x became %x", kept, room)
		}
		for i := range room {
			room[i] ^= 0xff
		}
		if q, again := Decode(kept[:len(b)]); p != q || ok != again {
			t.Errorf("%x: decoded again it is %s, %v, want %s, %v", b, show(q), again, show(p), ok)
		}
	}
	for _, p := range []api.Point{g, none, {}} {
		first := Encode(p)
		first[0] ^= 0xff
		_ = append(first[:cap(first)], 1)
		if got := Encode(p); !bytes.Equal(got, plainEncode(p)) {
			t.Errorf("%s: its bytes became %x", show(p), got)
		}
	}
}

// P2: the same calls have the same answers.
func TestAgain(t *testing.T) {
	p, q := edgePoints()[0], edgePoints()[3]
	u, v := someNat(newRand()), offNat(bigN, -7)
	sum, product, both := Add(p, q), Mul(u, p), Both(u, p, v, q)
	for range 3 {
		same(t, "Add again", Add(p, q), sum)
		same(t, "Mul again", Mul(u, p), product)
		same(t, "Both again", Both(u, p, v, q), both)
	}
}
