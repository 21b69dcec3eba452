package eddsa

import (
	"bytes"
	"crypto/ed25519"
	"fmt"
	"slices"
	"testing"

	"chronicle/api"
)

// known are signatures that are known from elsewhere (RFC 8032, 7.1).
var known = []struct{ seed, public, message, signature string }{
	{
		"9d61b19deffd5a60ba844af492ec2cc44449c5697b326919703bac031cae7f60",
		"d75a980182b10ab7d54bfed3c964073a0ee172f3daa62325af021a68f707511a",
		"",
		"e5564300c360ac729086e2cc806e828a84877f1eb8e5d974d873e065224901555fb8821590a33bacc61e39701cf9b46bd25bf5f0595bbe24655141438e7a100b",
	},
	{
		"4ccd089b28ff96da9db6c346ec114e0f5b8a319f35aba624da8cf6ed4fb8a6fb",
		"3d4017c3e843895a92b70aa74d1b7ebc9c982ccf2ec4968cc0cd55f12af4660c",
		"72",
		"92a009a9f0d4cab8720e820b5f642540a2b27b5416503f8fb3762223ebdb69da085ac1e43e15996e458f3613d0f11d8c387b2eaeb4302aeeb00d291612bb0c00",
	},
	{
		"c5aa8df43f9f837bedb7442f31dcb7b166d38535076f094b85ce3a2e0b4458f7",
		"fc51cd8e6218a1a38da47ed00230f0580816ed13ba3303ac5deb911548908025",
		"af82",
		"6291d657deec24024827e69c3abe01a30ce548a284743a445e3680d7db5ac3ac18ff9b538d16f290ae67f760984dc6594a7c15e9716ed28dc027beceea1ec40a",
	},
	{
		"833fe62409237b9d62ec77587520911e9a759cec1d19755b7da901b96dca3d42",
		"ec172b93ad5e563bf4932c70e1245034c35467ef2efd4d64ebf819683467e2bf",
		"ddaf35a193617abacc417349ae20413112e6fa4e89a97ea20a9eeee64b55d39a2192992a274fc1a836ba3c23a3feebbd454d4423643ce80e2a9ac94fa54ca49f",
		"dc2a4459e7369633a52b1bf277839a00201009a3efbf3ecb69bea2186c26b58909351fc9ac90b3ecfdfbc7c66431e0303dca179c138ac17ad9bef1177331a704",
	},
}

// publicOf answers the public key of the seed as a slice.
func publicOf(seed api.Hash) []byte {
	public := Public(seed)
	return public[:]
}

// sameBytes holds bytes to those that are wanted.
func sameBytes(t *testing.T, what string, got, want []byte) {
	t.Helper()
	if !bytes.Equal(got, want) {
		t.Errorf("%s: %x, want %x", what, got, want)
	}
}

// P12.1: public keys and signatures that are known from elsewhere.
func TestKnown(t *testing.T) {
	for _, c := range known {
		seed, message := api.Hash(unhex(c.seed)), unhex(c.message)
		sameBytes(t, "the public key of "+c.seed, publicOf(seed), unhex(c.public))
		sameBytes(t, "the signature by "+c.seed, Sign(seed, message), unhex(c.signature))
		if !Verify(unhex(c.public), message, unhex(c.signature)) {
			t.Errorf("the signature by %s isn't right", c.seed)
		}
	}
}

// P12.1: the number a has its lowest three bits 0, its highest one 0 and the next one 1, and all others from the hash.
func TestSplit(t *testing.T) {
	list, r := seeds(), newRand()
	for range 200 {
		list = append(list, someSeed(r))
	}
	for _, seed := range list {
		a, second := split(seed)
		wantA, wantSecond := plainSplit(seed)
		if whole(a).Cmp(wantA) != 0 {
			t.Errorf("the seed %x: a is %x, want %x", seed, whole(a), wantA)
		}
		sameBytes(t, fmt.Sprintf("the second half of the seed %x", seed), second, wantSecond)
	}
}

// P12.1: public keys are the chapter's words', and those that the standard library makes.
func TestPublic(t *testing.T) {
	list, r := seeds(), newRand()
	for range 40 {
		list = append(list, someSeed(r))
	}
	for _, seed := range list {
		got, what := publicOf(seed), fmt.Sprintf("the seed %x", seed)
		sameBytes(t, what, got, plainPublic(seed))
		sameBytes(t, what+" by the standard library", got, standardKey(seed)[32:])
	}
}

// P12.1: each byte of a seed counts.
func TestEachByteOfASeed(t *testing.T) {
	message := []byte("message")
	for i := range 32 {
		seed := api.Hash{}
		seed[i] = 128
		if public := Public(seed); public == Public(api.Hash{}) {
			t.Errorf("the byte %d of a seed doesn't count in its public key", i)
		}
		if bytes.Equal(Sign(seed, message), Sign(api.Hash{}, message)) {
			t.Errorf("the byte %d of a seed doesn't count in its signature", i)
		}
	}
}

// P12.1: signatures are those of the chapter's words, and those that the standard library makes; each has 64 bytes.
func TestSign(t *testing.T) {
	for i, seed := range seeds() {
		for j, message := range messages() {
			what := fmt.Sprintf("the seed %x and the message %d", seed, j)
			got := Sign(seed, message)
			if len(got) != 64 {
				t.Errorf("%s: the signature has %d bytes", what, len(got))
			}
			sameBytes(t, what+" by the standard library", got, ed25519.Sign(standardKey(seed), message))
			if (i+j)%5 == 0 {
				sameBytes(t, what, got, plainSign(seed, message))
			}
		}
	}
}

// P12.1: so are those of seeds and messages that follow no rule.
func TestSignByChance(t *testing.T) {
	r := newRand()
	for range 200 {
		seed, message := someSeed(r), someBytes(r, r.IntN(300))
		sameBytes(t, fmt.Sprintf("the seed %x and %x", seed, message), Sign(seed, message), ed25519.Sign(standardKey(seed), message))
	}
}

// P12.1: messages of each length about the blocks of the hash.
func TestSignLengths(t *testing.T) {
	seed, r := seeds()[0], newRand()
	for n := range 270 {
		message := someBytes(r, n)
		sameBytes(t, fmt.Sprintf("%d bytes", n), Sign(seed, message), ed25519.Sign(standardKey(seed), message))
	}
}

// P12.1, P12.2: a message may be long.
func TestLongMessage(t *testing.T) {
	seed, message := seeds()[2], someBytes(newRand(), 1<<20+17)
	signature := Sign(seed, message)
	sameBytes(t, "a long message", signature, ed25519.Sign(standardKey(seed), message))
	if !Verify(publicOf(seed), message, signature) {
		t.Error("the signature of a long message isn't right")
	}
}

// P12.2: each signature that is made is right: by Verify, by the chapter's words, and by the standard library.
func TestWhatIsMadeIsRight(t *testing.T) {
	for i, seed := range seeds() {
		public := publicOf(seed)
		for j, message := range messages() {
			signature := Sign(seed, message)
			if !Verify(public, message, signature) || !standardVerify(public, message, signature) {
				t.Errorf("the seed %x and the message %d: the signature %x isn't right", seed, j, signature)
			}
			if (i+j)%5 == 0 && !plainVerify(public, message, signature) {
				t.Errorf("the seed %x and the message %d: the signature %x isn't right by the words", seed, j, signature)
			}
		}
	}
}

// P12.2: so is each one by seeds, and of messages, that follow no rule.
func TestWhatIsMadeIsRightByChance(t *testing.T) {
	r := newRand()
	for range 100 {
		seed, message := someSeed(r), someBytes(r, r.IntN(700))
		if !Verify(publicOf(seed), message, Sign(seed, message)) {
			t.Errorf("the seed %x and %x: the signature isn't right", seed, message)
		}
	}
}

// R5: a message of no bytes may be nil or empty, and means the same.
func TestNoBytesAreNil(t *testing.T) {
	for _, seed := range seeds() {
		signature, public := Sign(seed, nil), publicOf(seed)
		sameBytes(t, fmt.Sprintf("the seed %x and no bytes", seed), Sign(seed, []byte{}), signature)
		sameBytes(t, fmt.Sprintf("the seed %x and none of three bytes", seed), Sign(seed, []byte("abc")[:0]), signature)
		if !Verify(public, nil, signature) || !Verify(public, []byte{}, signature) {
			t.Errorf("the seed %x: the signature of no bytes isn't right", seed)
		}
	}
}

// P2, P4: the same seed and message have the same answers, whatever was asked in between; others have other nonces.
func TestAgain(t *testing.T) {
	seed, other, message := seeds()[0], seeds()[1], []byte("message")
	public, signature := publicOf(seed), Sign(seed, message)
	for range 3 {
		Sign(other, message)
		Verify(nil, message, signature)
		sameBytes(t, "Public again", publicOf(seed), public)
		sameBytes(t, "Sign again", Sign(seed, message), signature)
		if !Verify(public, message, signature) || Verify(publicOf(other), message, signature) {
			t.Error("Verify answers otherwise than before")
		}
	}
	if bytes.Equal(Sign(other, message)[:32], signature[:32]) {
		t.Error("two seeds have one nonce")
	}
	if bytes.Equal(Sign(seed, []byte("another"))[:32], signature[:32]) {
		t.Error("two messages have one nonce")
	}
}

// withRoom answers the bytes with spare room behind them, and the whole of it.
func withRoom(b []byte) (part, all []byte) {
	all = append(slices.Clone(b), bytes.Repeat([]byte{0xa5, 0x5a, 0xff, 0}, 20)...)
	return all[:len(b)], all
}

// R5: bytes that are handed in stay as they are, their spare room too.
func TestBytesStay(t *testing.T) {
	seed := seeds()[1]
	for _, m := range messages() {
		made, key := Sign(seed, m), publicOf(seed)
		for _, keyAndSignature := range [][2][]byte{{key, made}, {{0}, made}, {key, made[:32]}, {key, append(made[:63:63], 255)}, {nil, nil}, {m, m}} {
			message, allMessage := withRoom(m)
			public, allPublic := withRoom(keyAndSignature[0])
			signature, allSignature := withRoom(keyAndSignature[1])
			kept := [][]byte{slices.Clone(allMessage), slices.Clone(allPublic), slices.Clone(allSignature)}
			Verify(public, message, signature)
			Sign(seed, message)
			for i, b := range [][]byte{allMessage, allPublic, allSignature} {
				if !bytes.Equal(b, kept[i]) {
					t.Errorf("%x became %x", kept[i], b)
				}
			}
		}
	}
}

// R5: parts of one piece of memory may be handed in, and count as if they were apart.
func TestOneMemory(t *testing.T) {
	seed := seeds()[3]
	public, message := publicOf(seed), []byte("message")
	all := slices.Concat(public, Sign(seed, message), message)
	if !Verify(all[:32], all[96:], all[32:96]) || Verify(all[:32], all, all[32:96]) {
		t.Error("parts of one piece of memory are taken otherwise than apart")
	}
	sameBytes(t, "a message that is the public key", Sign(seed, all[:32]), Sign(seed, public))
}

// R5: what is answered is new memory, and what was handed in isn't kept.
func TestAnswersAreNew(t *testing.T) {
	seed, message := seeds()[0], []byte("message")
	public, first := publicOf(seed), Sign(seed, message)
	want := slices.Clone(first)
	room := first[:cap(first)]
	for i := range room {
		room[i] ^= 0xff
	}
	sameBytes(t, "Sign", Sign(seed, message), want)
	publicOf(seed)[0] ^= 0xff
	sameBytes(t, "Public", publicOf(seed), public)
	message[0] ^= 1
	if Verify(public, message, want) {
		t.Error("the message was kept")
	}
}
