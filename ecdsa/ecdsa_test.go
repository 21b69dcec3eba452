package ecdsa

import (
	"bytes"
	"encoding/hex"
	"fmt"
	"math/big"
	"slices"
	"testing"

	"chronicle/api"
)

// highMessage is a message whose number is n or more; but for one in 2^32 they are below.
const highMessage = "hello 0621445946"

// skippedKey and skippedMessage are a key and a message of whose stream the first number is n or more, and so no nonce.
const (
	skippedKey     = 3949863423
	skippedMessage = "chronicle"
)

// knownKey is the key of the signatures that are known from elsewhere (RFC 6979, A.2.5).
var knownKey = hexNat("c9afa9d845ba75166b5c215767b1d6934e50c3db36e89b127b8a622b120f6721")

// knownSignatures are messages with their nonces and signatures by that key.
var knownSignatures = []struct{ message, k, r, s string }{
	{
		"sample",
		"a6e3c57dd01abe90086538398355dd4c3b17aa873382b0f24d6129493d8aad60",
		"efd48b2aacb6a8fd1140dd9cd45e81d69d2c877b56aaf991c34d0ea84eaf3716",
		"f7cb1c942d657c41d436c7a1b6e29f65f3e900dbb9aff4064dc4ab2f843acda8",
	},
	{
		"test",
		"d16b6ae827f17175e040871a1c7ec3500192c4c92677336ec2537acaee0008e0",
		"f1abb023518351cd71d881567b1ea663ed3efcf6c5132b354f28d3b0b7d38367",
		"019f4113742a2b14bd25926b49c649155f267e60d3814b4c0cc84250e46f0083",
	},
}

// mustPublic answers the public key of d, which is a private key.
func mustPublic(t *testing.T, d *big.Int) []byte {
	t.Helper()
	public, ok := Public(nat(d))
	if !ok {
		t.Fatalf("the key %x has no public key", d)
	}
	return public
}

// mustSign answers the signature of the message by d, which is a private key.
func mustSign(t *testing.T, d *big.Int, message []byte) []byte {
	t.Helper()
	signature, ok := Sign(nat(d), message)
	if !ok {
		t.Fatalf("the key %x has no signature of %x", d, message)
	}
	return signature
}

// sameBytes holds bytes, and that they are there, to those that are wanted.
func sameBytes(t *testing.T, what string, got []byte, ok bool, want []byte) {
	t.Helper()
	if !bytes.Equal(got, want) || !ok {
		t.Errorf("%s: %x, %v, want %x, true", what, got, ok, want)
	}
}

// sameNonce holds Nonce to the one that is wanted.
func sameNonce(t *testing.T, what string, d *big.Int, message []byte, want *big.Int) {
	t.Helper()
	if k, ok := Nonce(nat(d), message); k != nat(want) || !ok {
		t.Errorf("%s: the nonce is %x, %v, want %x, true", what, whole(k), ok, want)
	}
}

// P11.1: the example: the key 1 has G as its public key; and the keys beside the edges have G's double and the mirrors of both.
func TestPublicAtTheEdges(t *testing.T) {
	double := base.plus(base)
	for _, c := range []struct {
		name string
		d    *big.Int
		want point
	}{
		{"1", big.NewInt(1), base},
		{"2", big.NewInt(2), double},
		{"n - 2", off(bigN, -2), double.mirror()},
		{"n - 1", off(bigN, -1), base.mirror()},
	} {
		got, ok := Public(nat(c.d))
		sameBytes(t, "the key "+c.name, got, ok, c.want.bytes())
	}
	got, ok := Public(api.Nat{1})
	want, _ := hex.DecodeString("046b17d1f2e12c4247f8bce6e563a440f277037d812deb33a0f4a13945d898c2964fe342e2fe1a7f9b8ee7eb4a7c0f9e162bce33576b315ececbb6406837bf51f5")
	sameBytes(t, "the key 1", got, ok, want)
}

// P11.1: a public key that is known from elsewhere.
func TestPublicKnown(t *testing.T) {
	got, ok := Public(knownKey)
	want, _ := hex.DecodeString("0460fed4ba255a9d31c961eb74c6356d68c049b8923b61fa6ce669622e60f29fb67903fe1008b8bc99a41ae9e95628bc64f2f1b20c2d7e9f5177a3c294d4462299")
	sameBytes(t, "the known key", got, ok, want)
}

// P11.1: public keys are the chapter's words', and those that the standard library makes.
func TestPublic(t *testing.T) {
	keys, r := edgeKeys(), newRand()
	for range 30 {
		keys = append(keys, someUnit(r))
	}
	for _, d := range keys {
		got, ok := Public(nat(d))
		sameBytes(t, fmt.Sprintf("the key %x", d), got, ok, base.times(d).bytes())
		want, err := standardKey(t, d).PublicKey.Bytes()
		if err != nil {
			t.Fatal(err)
		}
		sameBytes(t, fmt.Sprintf("the key %x by the standard library", d), got, ok, want)
	}
}

// P11.1: what is no private key has no public key, no nonce and no signature, whatever the message is.
func TestNoKeys(t *testing.T) {
	for name, d := range noKeys() {
		if b, ok := Public(nat(d)); len(b) != 0 || ok {
			t.Errorf("the key %s: Public is %x, %v, want no bytes and false", name, b, ok)
		}
		for _, message := range messages() {
			if k, ok := Nonce(nat(d), message); k != (api.Nat{}) || ok {
				t.Errorf("the key %s and %d bytes: Nonce is %x, %v, want 0 and false", name, len(message), k, ok)
			}
			if b, ok := Sign(nat(d), message); len(b) != 0 || ok {
				t.Errorf("the key %s and %d bytes: Sign is %x, %v, want no bytes and false", name, len(message), b, ok)
			}
		}
	}
}

// P11.1: nonces and signatures that are known from elsewhere.
func TestKnown(t *testing.T) {
	for _, c := range knownSignatures {
		message := []byte(c.message)
		sameNonce(t, c.message, whole(knownKey), message, whole(hexNat(c.k)))
		got, ok := Sign(knownKey, message)
		want := plainPair(whole(hexNat(c.r)), whole(hexNat(c.s)))
		sameBytes(t, c.message, got, ok, want)
		if !Verify(mustPublic(t, whole(knownKey)), message, want) {
			t.Errorf("%s: the signature isn't right", c.message)
		}
	}
}

// P11.1: the first nonce is that of the chapter's words, of each edge and each message.
func TestNonce(t *testing.T) {
	for _, d := range edgeKeys() {
		for i, message := range messages() {
			sameNonce(t, fmt.Sprintf("the key %x and the message %d", d, i), d, message, plainNonces(d, message)[0])
		}
	}
	r := newRand()
	for range 200 {
		d, message := someUnit(r), someBytes(r, r.IntN(300))
		sameNonce(t, fmt.Sprintf("the key %x and %x", d, message), d, message, plainNonces(d, message)[0])
	}
}

// P11.1: no more than the first eight numbers of a stream become nonces, and each of them that may be one.
func TestNoncesAreBounded(t *testing.T) {
	for _, d := range edgeKeys() {
		message := []byte("message")
		var want []api.Nat
		for _, k := range plainNonces(d, message) {
			want = append(want, nat(k))
		}
		if got := nonces(nat(d), number(message)); !slices.Equal(got, want) {
			t.Errorf("the key %x: the nonces are %x, want %x", d, got, want)
		}
	}
}

// P11.1: nonces come from the number of the message modulo n, where that isn't the number itself; the signature is right.
func TestNumberAboveTheOrder(t *testing.T) {
	message := []byte(highMessage)
	z := plainNumber(message)
	if z.Cmp(bigN) < 0 {
		t.Fatalf("the number of the test's own message, %x, is below n", z)
	}
	for _, d := range edgeKeys() {
		k := plainStream(d, new(big.Int).Sub(z, bigN), 1)[0]
		if k.Cmp(plainStream(d, z, 1)[0]) == 0 {
			t.Fatalf("the key %x: both numbers have one stream", d)
		}
		sameNonce(t, fmt.Sprintf("the key %x", d), d, message, k)
		signature := mustSign(t, d, message)
		sameBytes(t, fmt.Sprintf("the key %x", d), signature, true, plainSign(d, message))
		if public := mustPublic(t, d); !Verify(public, message, signature) || !plainVerify(public, message, signature) {
			t.Errorf("the key %x: the signature isn't right", d)
		}
	}
}

// P11.1: a number of the stream that is n or more is no nonce: the next one is.
func TestNumberThatIsNoNonce(t *testing.T) {
	d, message := big.NewInt(skippedKey), []byte(skippedMessage)
	stream := plainStream(d, plainNumber(message), 2)
	if isUnit(stream[0]) || !isUnit(stream[1]) {
		t.Fatalf("the test's own stream begins with %x", stream)
	}
	sameNonce(t, "the skipped number", d, message, stream[1])
	if got := nonces(nat(d), number(message)); len(got) != 7 {
		t.Errorf("there are %d nonces, want 7", len(got))
	}
	got, ok := Sign(nat(d), message)
	sameBytes(t, "the skipped number", got, ok, plainSign(d, message))
	sameBytes(t, "the skipped number by the standard library", got, ok, standardSign(t, d, message))
	if !Verify(mustPublic(t, d), message, got) {
		t.Error("the signature with the next nonce isn't right")
	}
}

// P11.1: signatures are those of the chapter's words, and those that the standard library makes without chance.
func TestSign(t *testing.T) {
	all := messages()
	for i, d := range edgeKeys() {
		for j, message := range all {
			what := fmt.Sprintf("the key %x and the message %d", d, j)
			got, ok := Sign(nat(d), message)
			sameBytes(t, what+" by the standard library", got, ok, standardSign(t, d, message))
			if (i+j)%5 == 0 {
				sameBytes(t, what, got, ok, plainSign(d, message))
			}
		}
	}
}

// P11.1: so are those of keys and messages that follow no rule.
func TestSignByChance(t *testing.T) {
	r := newRand()
	for range 200 {
		d, message := someUnit(r), someBytes(r, r.IntN(300))
		got, ok := Sign(nat(d), message)
		sameBytes(t, fmt.Sprintf("the key %x and %x", d, message), got, ok, standardSign(t, d, message))
	}
}

// P11.1: a nonce that makes an s of 0 is left for the next one; where none makes a signature, there is none.
func TestNonceThatMakesNone(t *testing.T) {
	r := newRand()
	z := plainNumber([]byte("message"))
	first, second := someUnit(r), someUnit(r)
	// This key is chosen so that z + r d is 0 with the first nonce.
	d := lessN(overN(z, new(big.Int).Mod(base.times(first).x, bigN)))
	if got, ok := signWith([]api.Nat{nat(first)}, nat(d), nat(z)); len(got) != 0 || ok {
		t.Errorf("with an s of 0 alone: %x, %v, want no bytes and false", got, ok)
	}
	x := new(big.Int).Mod(base.times(second).x, bigN)
	s := overN(new(big.Int).Add(z, timesN(x, d)), second)
	got, ok := signWith([]api.Nat{nat(first), nat(first), nat(second)}, nat(d), nat(z))
	sameBytes(t, "with an s of 0 ahead", got, ok, plainPair(x, s))
	if got, ok := signWith(nil, nat(d), nat(z)); len(got) != 0 || ok {
		t.Errorf("without nonces: %x, %v, want no bytes and false", got, ok)
	}
}

// P11.2: each signature that is made is right: by Verify, by the chapter's words, and by the standard library.
func TestWhatIsMadeIsRight(t *testing.T) {
	for i, d := range edgeKeys() {
		public := mustPublic(t, d)
		for j, message := range messages() {
			signature := mustSign(t, d, message)
			if !Verify(public, message, signature) || !standardVerify(public, message, signature) {
				t.Errorf("the key %x and the message %d: the signature %x isn't right", d, j, signature)
			}
			if (i+j)%5 == 0 && !plainVerify(public, message, signature) {
				t.Errorf("the key %x and the message %d: the signature %x isn't right by the words", d, j, signature)
			}
		}
	}
}

// P11.2: so is each one by keys, and of messages, that follow no rule.
func TestWhatIsMadeIsRightByChance(t *testing.T) {
	r := newRand()
	for range 100 {
		d, message := someUnit(r), someBytes(r, r.IntN(700))
		if !Verify(mustPublic(t, d), message, mustSign(t, d, message)) {
			t.Errorf("the key %x and %x: the signature isn't right", d, message)
		}
	}
}

// P11.1: a message may be long.
func TestLongMessage(t *testing.T) {
	d, message := whole(knownKey), someBytes(newRand(), 1<<20+17)
	sameNonce(t, "a long message", d, message, plainNonces(d, message)[0])
	signature := mustSign(t, d, message)
	sameBytes(t, "a long message", signature, true, standardSign(t, d, message))
	if !Verify(mustPublic(t, d), message, signature) {
		t.Error("the signature of a long message isn't right")
	}
}

// R5: a message of no bytes may be nil or empty, and means the same.
func TestNoBytesAreNil(t *testing.T) {
	for _, d := range edgeKeys() {
		k, _ := Nonce(nat(d), nil)
		sameNonce(t, fmt.Sprintf("the key %x", d), d, []byte{}, whole(k))
		signature := mustSign(t, d, nil)
		sameBytes(t, fmt.Sprintf("the key %x", d), mustSign(t, d, []byte("abc")[:0]), true, signature)
		if public := mustPublic(t, d); !Verify(public, nil, signature) || !Verify(public, []byte{}, signature) {
			t.Errorf("the key %x: the signature of no bytes isn't right", d)
		}
	}
}

// P2, P4: the same key and message have the same answers, whatever was asked in between; others have other nonces.
func TestAgain(t *testing.T) {
	d, e, message := whole(knownKey), big.NewInt(7), []byte("message")
	public, signature := mustPublic(t, d), mustSign(t, d, message)
	k, _ := Nonce(nat(d), message)
	for range 3 {
		mustSign(t, e, message)
		Sign(api.Nat{}, message)
		sameBytes(t, "Public again", mustPublic(t, d), true, public)
		sameBytes(t, "Sign again", mustSign(t, d, message), true, signature)
		sameNonce(t, "Nonce again", d, message, whole(k))
		if !Verify(public, message, signature) || Verify(mustPublic(t, e), message, signature) {
			t.Error("Verify answers otherwise than before")
		}
	}
	if other, _ := Nonce(nat(e), message); other == k {
		t.Error("two keys have one nonce")
	}
	if other, _ := Nonce(nat(d), []byte("another")); other == k {
		t.Error("two messages have one nonce")
	}
}

// withRoom answers the bytes with spare room behind them, and the whole of it.
func withRoom(b []byte) (part, all []byte) {
	all = append(slices.Clone(b), 0xa5, 0x5a, 0xff, 0)
	return all[:len(b)], all
}

// R5: bytes that are handed in stay as they are, their spare room too.
func TestBytesStay(t *testing.T) {
	d := whole(knownKey)
	for _, m := range messages() {
		made := mustSign(t, d, m)
		for _, keyAndSignature := range [][2][]byte{{mustPublic(t, d), made}, {{0}, made}, {mustPublic(t, d), {48, 6}}, {nil, nil}, {m, m}} {
			message, allMessage := withRoom(m)
			public, allPublic := withRoom(keyAndSignature[0])
			signature, allSignature := withRoom(keyAndSignature[1])
			kept := [][]byte{slices.Clone(allMessage), slices.Clone(allPublic), slices.Clone(allSignature)}
			Verify(public, message, signature)
			Nonce(nat(d), message)
			Sign(nat(d), message)
			for i, b := range [][]byte{allMessage, allPublic, allSignature} {
				if !bytes.Equal(b, kept[i]) {
					t.Errorf("%x became %x", kept[i], b)
				}
			}
		}
	}
}

// R5: what is answered is new memory, and what was handed in isn't kept.
func TestAnswersAreNew(t *testing.T) {
	d, message := whole(knownKey), []byte("message")
	for name, ask := range map[string]func() []byte{
		"Public": func() []byte { return mustPublic(t, d) },
		"Sign":   func() []byte { return mustSign(t, d, message) },
	} {
		first := ask()
		want := slices.Clone(first)
		room := first[:cap(first)]
		for i := range room {
			room[i] ^= 0xff
		}
		sameBytes(t, name, ask(), true, want)
	}
	signature := mustSign(t, d, message)
	message[0] ^= 1
	if Verify(mustPublic(t, d), message, signature) {
		t.Error("the message was kept")
	}
}
