package note

import (
	standard "crypto/ecdsa"
	"crypto/ed25519"
	"crypto/elliptic"
	"crypto/sha256"
	"encoding/base64"
	"encoding/binary"
	"fmt"
	"math/rand/v2"
	"regexp"
	"strconv"
	"strings"
	"testing"

	"chronicle/api"
	"chronicle/ecdsa"
	"chronicle/eddsa"
)

// The forms of a name, of a signature's line, and of a note, as the chapter's words and layer 4's write them.
const (
	nameForm = `[A-Za-z0-9./-]{1,40}`
	textForm = `(?:[A-Za-z0-9+/]{4})*(?:[A-Za-z0-9+/]{2}==|[A-Za-z0-9+/]{3}=)?`
	lineForm = `sig (` + nameForm + `) ([ep]) (0|[1-9][0-9]{0,9}) (` + textForm + `)\n`
	noteForm = `^(` + nameForm + `)\n(0|[1-9][0-9]{0,9})\n(` + textForm + `)\n\n((?:` + lineForm + `){0,8})$`
)

var (
	aName = regexp.MustCompile(`^` + nameForm + `$`)
	aLine = regexp.MustCompile(lineForm)
	aNote = regexp.MustCompile(noteForm)
)

func newRand() *rand.Rand { return rand.New(rand.NewPCG(21, 62)) }

// someBytes answers so many bytes that follow no rule.
func someBytes(r *rand.Rand, count int) []byte {
	b := make([]byte, count)
	for i := range b {
		b[i] = byte(r.Uint32())
	}
	return b
}

// someName answers a name that follows no rule.
func someName(r *rand.Rand) string {
	const signs = "ABCXYZabcxyz0189.-/"
	name := make([]byte, 1+r.IntN(40))
	for i := range name {
		name[i] = signs[r.IntN(len(signs))]
	}
	return string(name)
}

// someHead answers a head that follows no rule.
func someHead(r *rand.Rand) Head {
	return Head{someName(r), int(r.Uint32() >> (1 + r.IntN(31))), api.Hash(someBytes(r, 32))}
}

// someSig answers a signature that has a line, and follows no rule.
func someSig(r *rand.Rand) Sig {
	return Sig{someName(r), "ep"[r.IntN(2)], r.Uint32() >> r.IntN(32), someBytes(r, 1+r.IntN(80))}
}

// someSigs answers n signatures that have lines, and follow no rule.
func someSigs(r *rand.Rand, n int) []Sig {
	sigs := make([]Sig, n)
	for i := range sigs {
		sigs[i] = someSig(r)
	}
	return sigs
}

// plainText answers the text of a head, and whether it is one.
func plainText(h Head) (string, bool) {
	if !aName.MatchString(h.Origin) || h.Size < 0 || int64(h.Size) >= 1<<31 {
		return "", false
	}
	return fmt.Sprintf("%s\n%d\n%s\n", h.Origin, h.Size, base64.StdEncoding.EncodeToString(h.Root[:])), true
}

// plainNumber answers the number of a key.
func plainNumber(k Key) uint32 {
	var b []byte
	b = append(b, k.Name...)
	b = append(b, 10, k.Kind)
	b = append(b, k.Public...)
	hash := sha256.Sum256(b)
	return binary.BigEndian.Uint32(hash[:4])
}

// plainLine answers the line of what may be no signature.
func plainLine(s Sig) string {
	return fmt.Sprintf("sig %s %c %d %s\n", s.Name, s.Kind, s.Number, base64.StdEncoding.EncodeToString(s.Bytes))
}

// plainLines answers the lines of what may be no signatures.
func plainLines(sigs []Sig) string {
	var lines strings.Builder
	for _, s := range sigs {
		lines.WriteString(plainLine(s))
	}
	return lines.String()
}

// plainNote answers what a head and signatures would be as a note, were they right or not.
func plainNote(h Head, sigs []Sig) string {
	return fmt.Sprintf("%s\n%d\n%s\n\n%s", h.Origin, h.Size, base64.StdEncoding.EncodeToString(h.Root[:]), plainLines(sigs))
}

// plainSig answers whether a signature has a line.
func plainSig(s Sig) bool {
	return aName.MatchString(s.Name) && strings.ContainsRune("ep", rune(s.Kind)) && len(s.Bytes) >= 1 && len(s.Bytes) <= 80
}

// plainWrite answers the note, question by question.
func plainWrite(h Head, sigs []Sig) (string, api.Errno) {
	_, ok := plainText(h)
	for _, s := range sigs {
		ok = ok && plainSig(s)
	}
	switch {
	case !ok:
		return "", api.ErrArg
	case len(sigs) > 8, len(plainNote(h, sigs)) > 4000:
		return "", api.ErrLong
	}
	return plainNote(h, sigs), api.OK
}

// plainRead answers what a note is of: what its form lets through, if that is written so.
func plainRead(s string) (Head, []Sig, api.Errno) {
	if len(s) > 4000 {
		return Head{}, nil, api.ErrLong
	}
	parts := aNote.FindStringSubmatch(s)
	if parts == nil {
		return Head{}, nil, api.ErrForm
	}
	h := Head{Origin: parts[1]}
	h.Size, _ = strconv.Atoi(parts[2])
	root, _ := base64.StdEncoding.DecodeString(parts[3])
	copy(h.Root[:], root)
	var sigs []Sig
	for _, line := range aLine.FindAllStringSubmatch(parts[4], -1) {
		n, _ := strconv.ParseUint(line[3], 10, 64)
		b, _ := base64.StdEncoding.DecodeString(line[4])
		sigs = append(sigs, Sig{line[1], line[2][0], uint32(n), b})
	}
	if note, e := plainWrite(h, sigs); e != api.OK || note != s {
		return Head{}, nil, api.ErrForm
	}
	return h, sigs, api.OK
}

// plainVerify answers whether the standard library holds a signature for right.
func plainVerify(k Key, message, signature []byte) bool {
	switch k.Kind {
	case 'e':
		return len(k.Public) == ed25519.PublicKeySize && ed25519.Verify(k.Public, message, signature)
	case 'p':
		public, err := standard.ParseUncompressedPublicKey(elliptic.P256(), k.Public)
		hash := sha256.Sum256(message)
		return err == nil && standard.VerifyASN1(public, hash[:], signature)
	}
	return false
}

// plainRight answers whether s is a right signature of h by k.
func plainRight(h Head, s Sig, k Key) bool {
	message, ok := plainText(h)
	if !ok || !aName.MatchString(k.Name) || s.Name != k.Name || s.Kind != k.Kind || s.Number != plainNumber(k) {
		return false
	}
	return plainVerify(k, []byte(message), s.Bytes)
}

// A signer is a key, and how it signs.
type signer struct {
	key  Key
	sign func(message []byte) []byte
}

// sig answers the signature of the text.
func (s signer) sig(text string) Sig {
	return Sig{s.key.Name, s.key.Kind, plainNumber(s.key), s.sign([]byte(text))}
}

// ofEcdsa answers the signer of the kind p with that private key.
func ofEcdsa(name string, d api.Nat) signer {
	public, _ := ecdsa.Public(d)
	return signer{Key{name, 'p', public}, func(message []byte) []byte {
		b, _ := ecdsa.Sign(d, message)
		return b
	}}
}

// ofEddsa answers the signer of the kind e with that seed.
func ofEddsa(name string, seed api.Hash) signer {
	public := eddsa.Public(seed)
	return signer{Key{name, 'e', public[:]}, func(message []byte) []byte { return eddsa.Sign(seed, message) }}
}

// signers answers one signer of each kind, of one name.
func signers(name string) []signer {
	return []signer{ofEcdsa(name, api.Nat{7}), ofEddsa(name, api.Hash{9})}
}

// The plain ways agree with what is worked out by hand, and with one another.
func TestPlainWaysAgree(t *testing.T) {
	const zeros = "AAAAAAAAAAAAAAAAAAAAAAAAAAAAAAAAAAAAAAAAAAA="
	hand := "a\n0\n" + zeros + "\n\nsig b e 258 YWI=\n"
	h, s := Head{Origin: "a"}, Sig{"b", 'e', 258, []byte("ab")}
	if got := plainNote(h, []Sig{s}); got != hand {
		t.Errorf("the note is %q, and %q by hand", got, hand)
	}
	// The hash of no name, a line end and a kind 0 begins with these four bytes.
	if sum := sha256.Sum256([]byte{10, 0}); plainNumber(Key{}) != uint32(sum[0])*(1<<24)+uint32(sum[1])*(1<<16)+uint32(sum[2])*(1<<8)+uint32(sum[3]) {
		t.Error("the number isn't that of the first four bytes")
	}
	r := newRand()
	for range 200 {
		h, sigs := someHead(r), someSigs(r, r.IntN(9))
		note, e := plainWrite(h, sigs)
		g, l, f := plainRead(note)
		if e != api.OK || f != api.OK || g != h || !sameSigs(l, sigs) {
			t.Fatalf("%q is read as %v, %v", note, g, l)
		}
	}
}
