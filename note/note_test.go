package note

import (
	"bytes"
	"fmt"
	"math"
	"math/rand/v2"
	"slices"
	"strings"
	"testing"
	"unsafe"

	"chronicle/api"
	"chronicle/ecdsa"
	"chronicle/eddsa"
)

// zeros is the text of a root of noughts.
const zeros = "AAAAAAAAAAAAAAAAAAAAAAAAAAAAAAAAAAAAAAAAAAA="

// noNames are no names: of too few signs or too many, or with a sign that a name hasn't.
func noNames() []string {
	long := strings.Repeat("n", 41)
	return []string{
		"", long, long + long, strings.Repeat("n", 4000),
		"a b", " a", "a ", "a\n", "\na", "a\nb", "\n", " ", "a\r", "sig a", "\x00", "a\x00", "\x7f",
		"a_b", "a+b", "a=", "a:b", "a@b", "a[b", "a`b", "a{b", "a,b",
		// Others' letters and digits, of which some are folded to those of a name.
		"\u00e9", "a\xff", "\x80", "\u017f", "\u212a", "\uff11",
	}
}

// someNames are names, of the fewest signs and of the most, and of each kind of sign.
func someNames() []string {
	return []string{"a", "z", "A", "Z", "0", "9", ".", "-", "/", "sig", "log.example", "a/b-c.d", "012", strings.Repeat("n", 39), strings.Repeat("N", 40), strings.Repeat("/", 40)}
}

// noSizes are sizes that no head has.
var noSizes = []int{math.MinInt, math.MinInt + 1, math.MinInt32 - 1, math.MinInt32, -1 << 40, -10, -2, -1, 1 << 31, 1<<31 + 1, 1<<32 - 1, 1 << 32, 1<<32 + 1, 1 << 62, math.MaxInt - 1, math.MaxInt}

// someSizes are sizes of heads, the least and the greatest among them.
var someSizes = []int{0, 1, 2, 9, 10, 11, 99, 100, 1<<16 - 1, 1 << 16, 1<<30 - 1, 1 << 30, 1<<31 - 2, 1<<31 - 1}

// sameSigs answers whether both lists have the same signatures.
func sameSigs(a, b []Sig) bool {
	return slices.EqualFunc(a, b, func(s, u Sig) bool {
		return s.Name == u.Name && s.Kind == u.Kind && s.Number == u.Number && bytes.Equal(s.Bytes, u.Bytes)
	})
}

// textIs holds Text to the plain way.
func textIs(t *testing.T, h Head) {
	t.Helper()
	want, ok := plainText(h)
	for range 2 {
		if got, is := Text(h); got != want || is != ok {
			t.Fatalf("the text of %q, %d is %q, %v, not %q, %v", h.Origin, h.Size, got, is, want, ok)
		}
	}
}

// numberIs holds Number to the plain way.
func numberIs(t *testing.T, k Key) {
	t.Helper()
	for range 2 {
		if got, want := Number(k), plainNumber(k); got != want {
			t.Fatalf("the number of %q, %d, %x is %d, not %d", k.Name, k.Kind, k.Public, got, want)
		}
	}
}

// writeIs holds Write to an answer, and so to the same one again.
func writeIs(t *testing.T, what string, h Head, sigs []Sig, want string, e api.Errno) {
	t.Helper()
	for range 2 {
		if got, f := Write(h, sigs); got != want || f != e {
			t.Fatalf("%s: %q, %d is written, not %q, %d", what, got, f, want, e)
		}
	}
}

// written holds Write to the plain way.
func written(t *testing.T, what string, h Head, sigs []Sig) {
	t.Helper()
	want, e := plainWrite(h, sigs)
	writeIs(t, what, h, sigs, want, e)
}

// readIs holds Read to an answer, and so to the same one again.
func readIs(t *testing.T, what, s string, want Head, list []Sig, e api.Errno) {
	t.Helper()
	for range 2 {
		if got, l, f := Read(s); got != want || !sameSigs(l, list) || f != e {
			t.Fatalf("%s: %q is read as %v, %v, %d, not %v, %v, %d", what, s, got, l, f, want, list, e)
		}
	}
}

// read holds Read to the plain way, and answers whether s is a note; if so, it is written again.
func read(t *testing.T, what, s string) bool {
	t.Helper()
	h, list, e := plainRead(s)
	readIs(t, what, s, h, list, e)
	if e == api.OK {
		writeIs(t, what, h, list, s, api.OK)
	}
	return e == api.OK
}

// isNote holds Read to it that s is a note.
func isNote(t *testing.T, what, s string) {
	t.Helper()
	if !read(t, what, s) {
		t.Fatalf("%s: %q is no note", what, s)
	}
}

// noNote holds Read to it that s is none.
func noNote(t *testing.T, what, s string) {
	t.Helper()
	readIs(t, what, s, Head{}, nil, api.ErrForm)
	read(t, what, s)
}

// right holds Right to an answer, and so to the same one again, and to the standard library's.
func right(t *testing.T, what string, h Head, s Sig, k Key, want bool) {
	t.Helper()
	for range 2 {
		if got := Right(h, s, k); got != want {
			t.Fatalf("%s: %v of %v, %v, %v", what, got, h, s, k)
		}
	}
	if plainRight(h, s, k) != want {
		t.Fatalf("%s: the standard library says %v of %v, %v, %v", what, !want, h, s, k)
	}
}

// P21.1: a head's text is its origin, the size's digits and the root's text, each ended by a line end.
func TestText(t *testing.T) {
	r := newRand()
	for _, name := range someNames() {
		for _, size := range someSizes {
			for _, root := range []api.Hash{{}, {1}, {31: 255}, api.Hash(bytes.Repeat([]byte{255}, 32)), api.Hash(someBytes(r, 32))} {
				textIs(t, Head{name, size, root})
			}
		}
	}
	for range 300 {
		textIs(t, someHead(r))
	}
}

// P21.1: the chapter's example, and one by hand.
func TestTextByHand(t *testing.T) {
	if got, ok := Text(Head{Origin: "a"}); got != "a\n0\n"+zeros+"\n" || !ok {
		t.Errorf("%q, %v", got, ok)
	}
	writeIs(t, "the example", Head{Origin: "a"}, nil, "a\n0\n"+zeros+"\n\n", api.OK)
	if got, ok := Text(Head{"log.example", math.MaxInt32, api.Hash{0: 0xfb, 1: 0xf0}}); got != "log.example\n2147483647\n+/A"+zeros[3:]+"\n" || !ok {
		t.Errorf("%q, %v", got, ok)
	}
}

// P21.1, R3: of an origin that is no name, and of a size that is too small or too great, nothing and false.
func TestTextOfNone(t *testing.T) {
	r := newRand()
	for _, h := range noHeads(r) {
		if got, ok := Text(h); got != "" || ok {
			t.Errorf("the text of %q, %d is %q, %v", h.Origin, h.Size, got, ok)
		}
		textIs(t, h)
	}
	for b := range 256 {
		textIs(t, Head{Origin: string([]byte{byte(b)})})
		textIs(t, Head{Origin: string([]byte{'a', byte(b), 'z'})})
	}
}

// noHeads are no heads: of an origin that is no name, of a size that none has, and of both.
func noHeads(r *rand.Rand) []Head {
	var list []Head
	root := api.Hash(someBytes(r, 32))
	for _, name := range noNames() {
		list = append(list, Head{name, 3, root}, Head{name, 0, api.Hash{}}, Head{name, -1, root}, Head{name, 1 << 31, root})
	}
	for _, size := range noSizes {
		list = append(list, Head{"log.example", size, root}, Head{strings.Repeat("n", 40), size, api.Hash{}})
	}
	return list
}

// P21.1: a key's number is that of the first four bytes of a hash, whatever name, kind and bytes it has.
func TestNumber(t *testing.T) {
	r := newRand()
	for kind := range 256 {
		for _, public := range [][]byte{nil, {}, {0}, {10}, someBytes(r, 32), someBytes(r, 65), someBytes(r, 200)} {
			numberIs(t, Key{"log.example", byte(kind), public})
			numberIs(t, Key{"", byte(kind), public})
		}
	}
	for _, name := range slices.Concat(someNames(), noNames()) {
		numberIs(t, Key{name, 'e', someBytes(r, 32)})
		numberIs(t, Key{name, 'p', nil})
		numberIs(t, Key{Name: name})
	}
	for range 300 {
		numberIs(t, Key{someName(r), byte(r.Uint32()), someBytes(r, r.IntN(100))})
	}
}

// P21.1: numbers whose hashes another program made.
func TestNumberByHand(t *testing.T) {
	for _, one := range []struct {
		k    Key
		want uint32
	}{
		{Key{}, 0x102b51b9},
		{Key{Name: "a", Kind: 'e'}, 0x27028356},
		{Key{"log.example", 'p', []byte{}}, 0x2ab4a057},
	} {
		if got := Number(one.k); got != one.want {
			t.Errorf("the number of %v is %x, not %x", one.k, got, one.want)
		}
	}
}

// P21.1: what is hashed has one line end and the kind between the name and the bytes, so that keys whose names end so have one number.
func TestNumberOfTheWhole(t *testing.T) {
	a, b := Key{"a\n", 'e', []byte("b")}, Key{"a", '\n', []byte("eb")}
	if Number(a) != Number(b) {
		t.Errorf("%x isn't %x", Number(a), Number(b))
	}
	k := Key{"a", 'e', []byte("bc")}
	for _, other := range []Key{{"b", 'e', []byte("bc")}, {"a", 'p', []byte("bc")}, {"a", 'e', []byte("bd")}, {"a", 'e', []byte("cb")}, {"ab", 'e', []byte("c")}, {"a", 'e', []byte("b")}} {
		if Number(k) == Number(other) {
			t.Errorf("%v has the number of %v", other, k)
		}
	}
}

// P21.1: a note is its head's text, an empty line, and so many lines, in their order.
func TestWriteByHand(t *testing.T) {
	h := Head{"log.example", 12, api.Hash{1}}
	sigs := []Sig{
		{"w1", 'e', 0, []byte("ab")},
		{"log.example", 'p', math.MaxUint32, []byte{0}},
		{"w1", 'e', 0, []byte("ab")},
	}
	head := "log.example\n12\nAQAA" + zeros[4:] + "\n\n"
	one, two := "sig w1 e 0 YWI=\n", "sig log.example p 4294967295 AA==\n"
	writeIs(t, "no signature", h, nil, head, api.OK)
	writeIs(t, "one", h, sigs[:1], head+one, api.OK)
	writeIs(t, "two", h, sigs[:2], head+one+two, api.OK)
	writeIs(t, "three, one of them twice", h, sigs, head+one+two+one, api.OK)
	readIs(t, "no signature", head, h, nil, api.OK)
	readIs(t, "three", head+one+two+one, h, sigs, api.OK)
}

// P21.1, R5: 0 to MaxSigs signatures make a note, as many as may be; one more, and very many, are too many.
func TestWriteCounts(t *testing.T) {
	r := newRand()
	for range 20 {
		h, sigs := someHead(r), someSigs(r, 20)
		for n := range len(sigs) + 1 {
			want, e := plainNote(h, sigs[:n]), api.OK
			if n > api.MaxSigs {
				want, e = "", api.ErrLong
			}
			writeIs(t, fmt.Sprint(n), h, sigs[:n], want, e)
		}
		for _, none := range [][]Sig{nil, {}, sigs[:0], sigs[20:], sigs[1:1:1]} {
			writeIs(t, "no signature", h, none, plainNote(h, nil), api.OK)
		}
	}
	s := someSig(r)
	writeIs(t, "very many", Head{Origin: "a"}, slices.Repeat([]Sig{s}, 1<<16), "", api.ErrLong)
}

// spoiled answers a signature that has no line for one reason.
type spoiled struct {
	what string
	s    Sig
}

// noSigs are signatures that have no line.
func noSigs(r *rand.Rand) []spoiled {
	var list []spoiled
	for _, name := range noNames() {
		list = append(list, spoiled{fmt.Sprintf("the name %q", name), Sig{name, 'e', 5, someBytes(r, 64)}})
	}
	for kind := range 256 {
		if kind != 'e' && kind != 'p' {
			list = append(list, spoiled{fmt.Sprintf("the kind %d", kind), Sig{"w", byte(kind), 5, someBytes(r, 64)}})
		}
	}
	for _, size := range []int{0, 81, 82, 83, 84, 100, 160, 256, 256 + 64, 5000} {
		list = append(list, spoiled{fmt.Sprintf("%d bytes", size), Sig{"w", 'p', 5, someBytes(r, size)}})
	}
	return append(list, spoiled{"no bytes", Sig{"w", 'p', 5, nil}}, spoiled{"nothing", Sig{}})
}

// P21.1, R2, R3: a signature that has no line, at the first place, a middle one and the last, and behind as many as may be: ErrArg.
func TestWriteWrongSigs(t *testing.T) {
	r := newRand()
	h := someHead(r)
	for _, wrong := range noSigs(r) {
		for _, n := range []int{1, 2, 3, 5, 8, 9, 12} {
			for _, at := range []int{0, n / 2, n - 1} {
				sigs := someSigs(r, n)
				sigs[at] = wrong.s
				writeIs(t, fmt.Sprintf("%s at %d of %d", wrong.what, at, n), h, sigs, "", api.ErrArg)
				written(t, wrong.what, h, sigs)
			}
		}
	}
}

// P21.1: signatures of 1 to 80 bytes, of names of all lengths, of both kinds, and of the least and the greatest number.
func TestWriteSigs(t *testing.T) {
	r := newRand()
	h := Head{"log.example", 1, api.Hash{2}}
	for size := range 201 {
		for _, at := range []int{0, 1, 3} {
			sigs := someSigs(r, 4)
			sigs[at].Bytes = someBytes(r, size)
			written(t, fmt.Sprintf("%d bytes at %d", size, at), h, sigs)
		}
	}
	for _, name := range someNames() {
		for _, kind := range []byte("ep") {
			for _, number := range []uint32{0, 1, 9, 10, 1<<16 - 1, 1 << 16, 1<<31 - 1, 1 << 31, 1<<32 - 1} {
				sigs := []Sig{{name, kind, number, someBytes(r, 64)}}
				writeIs(t, "one", h, sigs, plainNote(h, sigs), api.OK)
				isNote(t, "one", plainNote(h, sigs))
			}
		}
	}
	for kind := range 256 {
		written(t, fmt.Sprintf("the kind %d", kind), h, []Sig{{"w", byte(kind), 5, []byte{1}}})
	}
}

// P21.1, R2, R3: what is no head: ErrArg, whatever the signatures are, and however many.
func TestWriteNoHead(t *testing.T) {
	r := newRand()
	for _, h := range noHeads(r) {
		for _, n := range []int{0, 1, 8, 9, 20} {
			writeIs(t, "no head", h, someSigs(r, n), "", api.ErrArg)
		}
		writeIs(t, "no head, and no signature", h, []Sig{{}}, "", api.ErrArg)
	}
}

// P21.1, R2: two wrongs at once: what has no line comes ahead of what is too much.
func TestWriteTwoWrongs(t *testing.T) {
	r := newRand()
	h := someHead(r)
	for _, n := range []int{9, 10, 100} {
		for at := range n {
			sigs := someSigs(r, n)
			writeIs(t, "too many", h, sigs, "", api.ErrLong)
			sigs[at].Bytes = nil
			writeIs(t, fmt.Sprintf("too many, and no bytes at %d", at), h, sigs, "", api.ErrArg)
		}
	}
}

// greatest answers the head and the signatures whose note is the longest.
func greatest(r *rand.Rand) (Head, []Sig) {
	h := Head{strings.Repeat("n", api.MaxName), math.MaxInt32, api.Hash(someBytes(r, 32))}
	var sigs []Sig
	for range api.MaxSigs {
		sigs = append(sigs, Sig{strings.Repeat("m", api.MaxName), 'p', math.MaxUint32, someBytes(r, 80)})
	}
	return h, sigs
}

// P21.1: there is no note of just MaxText bytes, and none of one more: the longest is shorter, and is written and read.
func TestGreatestNote(t *testing.T) {
	h, sigs := greatest(newRand())
	note := plainNote(h, sigs)
	if want := 41 + 11 + 45 + 1 + 8*(4+41+2+11+109); len(note) != want || want >= api.MaxText {
		t.Errorf("the longest note has %d bytes", len(note))
	}
	writeIs(t, "the longest", h, sigs, note, api.OK)
	readIs(t, "the longest", note, h, sigs, api.OK)
}

// P21.3: what is written is read.
func TestWrittenIsRead(t *testing.T) {
	r := newRand()
	for n := range api.MaxSigs + 1 {
		for range 60 {
			h, sigs := someHead(r), someSigs(r, n)
			note, e := Write(h, sigs)
			if e != api.OK {
				t.Fatalf("%d of %v, %v", e, h, sigs)
			}
			readIs(t, "as written", note, h, sigs, api.OK)
			isNote(t, "as written", note)
		}
	}
	for _, name := range someNames() {
		for _, size := range someSizes {
			isNote(t, "of one head", plainNote(Head{name, size, api.Hash(someBytes(r, 32))}, someSigs(r, 1)))
		}
	}
}

// changed is what stands where a byte is changed, or comes in: signs of each line, and such as no line has.
const changed = "\n\r \t\x000129aesigpAZ/.-+=_\u00e9\xff"

// P21.1, P21.3: a note with one byte out, one more, or one changed, at every place.
func TestReadOneByteOff(t *testing.T) {
	r := newRand()
	still, notes := 0, []string{"a\n10\n" + zeros + "\n\nsig b e 258 YWI=\n"}
	for n := range 4 {
		notes = append(notes, plainNote(someHead(r), someSigs(r, n)))
	}
	for _, note := range notes {
		for at := range len(note) + 1 {
			ahead, behind := note[:at], note[at:]
			for i := range len(changed) {
				still += count(read(t, "one more", ahead+changed[i:i+1]+behind))
				if at < len(note) {
					still += count(read(t, "one changed", ahead+changed[i:i+1]+behind[1:]))
				}
			}
			if at < len(note) {
				still += count(read(t, "one out", ahead+behind[1:]))
			}
			read(t, "cut off", ahead)
			read(t, "cut off", behind)
		}
	}
	if still < 1000 {
		t.Errorf("%d changed notes were notes: too few to tell", still)
	}
}

// count answers 1 for what is so.
func count(so bool) int {
	if so {
		return 1
	}
	return 0
}

// P21.1: each byte at each place of a note.
func TestReadEveryByte(t *testing.T) {
	note := "a\n10\n" + zeros + "\n\nsig b e 258 YWI=\n"
	for at := range note {
		for b := range 256 {
			read(t, "one changed", note[:at]+string([]byte{byte(b)})+note[at+1:])
			read(t, "one more", note[:at]+string([]byte{byte(b)})+note[at:])
		}
	}
}

// P21.1: notes of which a whole line, or a part of one, is out, twice, or in another place.
func TestReadPartsOff(t *testing.T) {
	r := newRand()
	for _, end := range []string{"\n", " "} {
		for n := range 4 {
			parts := strings.SplitAfter(plainNote(someHead(r), someSigs(r, n)), end)
			for i := range parts {
				read(t, "one out", strings.Join(slices.Delete(slices.Clone(parts), i, i+1), ""))
				for j := range parts {
					read(t, "one twice", strings.Join(slices.Insert(slices.Clone(parts), i, parts[j]), ""))
					swapped := slices.Clone(parts)
					swapped[i], swapped[j] = swapped[j], swapped[i]
					read(t, "two swapped", strings.Join(swapped, ""))
				}
			}
		}
	}
}

// P21.1: digits of a size: none ahead, no sign, not 2^31 and not more.
func TestReadSizes(t *testing.T) {
	for _, good := range []string{"0", "1", "9", "10", "2147483646", "2147483647"} {
		isNote(t, good, "a\n"+good+"\n"+zeros+"\n\n")
	}
	for _, bad := range append(noDigits(), "2147483648", "2147483649", "4294967295") {
		noNote(t, bad, "a\n"+bad+"\n"+zeros+"\n\n")
	}
}

// P21.1: digits of a key's number: none ahead, no sign, not 2^32 and not more.
func TestReadNumbers(t *testing.T) {
	for _, good := range []string{"0", "1", "9", "10", "2147483647", "2147483648", "4294967294", "4294967295"} {
		isNote(t, good, "a\n0\n"+zeros+"\n\nsig b p "+good+" AA==\n")
	}
	for _, bad := range noDigits() {
		noNote(t, bad, "a\n0\n"+zeros+"\n\nsig b p "+bad+" AA==\n")
	}
}

// noDigits are the digits of no number below 2^32.
func noDigits() []string {
	return []string{
		"", "00", "01", "007", "0000000000", "00000000001", "+1", "+0", "-1", "-0", "- 1", "1-", "1.0", "1.", ".1", "1e1", "0x1", "0b1", "0o1", "1_0", "_1", "a", "x", "1a", "A",
		" 1", "1 ", "\t1", "1\r", "\r1", "\uff11", "\u0663", "\x00", "1\x00",
		"4294967296", "4294967297", "4294967298", "8589934592", "6442450944", "9223372036854775807", "9223372036854775808", "18446744073709551615", "18446744073709551616", "18446744073709551617", "36893488147419103233", strings.Repeat("9", 40), strings.Repeat("1", 1000),
	}
}

// P21.1: the root's text is that of just 32 bytes, with nothing else in its last sign.
func TestReadRoots(t *testing.T) {
	r := newRand()
	for size := range 100 {
		note := "a\n0\n" + rootText(someBytes(r, size)) + "\n\n"
		if read(t, fmt.Sprintf("a root of %d bytes", size), note) != (size == 32) {
			t.Errorf("a root of %d bytes", size)
		}
	}
	for _, bad := range []string{zeros[:43], zeros[:42] + "==", zeros[:43] + "A", zeros[:42] + "B=", zeros[:42] + "C=", zeros[:42] + "D=", zeros + "=", zeros + "A", zeros[1:], "=" + zeros, zeros[:42] + "-=", zeros[:42] + "_=", zeros[:42] + "A", " " + zeros, zeros + " ", zeros[:20] + "\r" + zeros[20:], zeros[:20] + "====" + zeros[24:], zeros + zeros, strings.Repeat("0", 64)} {
		noNote(t, "another text", "a\n0\n"+bad+"\n\n")
		noNote(t, "another text", "a\n0\n"+bad+"\n\nsig b e 258 YWI=\n")
	}
	for _, good := range []string{zeros[:42] + "E=", zeros[:42] + "8=", "////" + zeros[4:], "++++" + zeros[4:]} {
		isNote(t, "another root", "a\n0\n"+good+"\n\n")
	}
}

// rootText answers the text of what may not be 32 bytes.
func rootText(b []byte) string {
	line := plainLine(Sig{Name: "a", Kind: 'e', Bytes: b})
	return strings.TrimSuffix(strings.TrimPrefix(line, "sig a e 0 "), "\n")
}

// P21.1: signatures of 1 to 80 bytes are read, and of no others, at the first, a middle and the last place.
func TestReadSigBytes(t *testing.T) {
	r := newRand()
	h := Head{Origin: "a"}
	for size := range 201 {
		for _, at := range []int{0, 2, 4} {
			sigs := someSigs(r, 5)
			sigs[at].Bytes = someBytes(r, size)
			if what := fmt.Sprintf("%d bytes at %d", size, at); size >= 1 && size <= 80 {
				readIs(t, what, plainNote(h, sigs), h, sigs, api.OK)
			} else {
				noNote(t, what, plainNote(h, sigs))
			}
		}
	}
}

// P21.1: signatures of another kind, or of a name that is none, at the first, a middle and the last place.
func TestReadWrongSigs(t *testing.T) {
	r := newRand()
	h := Head{Origin: "a"}
	for _, wrong := range noSigs(r) {
		for _, at := range []int{0, 1, 3} {
			sigs := someSigs(r, 4)
			sigs[at] = wrong.s
			if note := plainNote(h, sigs); len(note) <= api.MaxText {
				noNote(t, wrong.what, note)
			}
		}
	}
	for _, kind := range []string{"", "ee", "ep", "pp", "E", "P", "101", "112", "\u00e9", "\uff45", "e\x00", "x", "e "} {
		noNote(t, "the kind "+kind, "a\n0\n"+zeros+"\n\nsig b "+kind+" 258 YWI=\n")
	}
	for _, encoded := range []string{"", "=", "==", "====", "Y", "YW", "YWI", "YWJ=", "YWK=", "YWI==", "YWI=YWI=", "YQ=", "YR==", "YQ==\r", "YQ== ", " YQ==", "YQ==YQ==", "YWI= e", "YWI= YWI=", "YW\rI=", "-_-_"} {
		noNote(t, "the text "+encoded, "a\n0\n"+zeros+"\n\nsig b e 258 "+encoded+"\n")
	}
}

// P21.1: lines that begin with another word than sig, and such with fewer parts, or more.
func TestReadWords(t *testing.T) {
	head := "a\n0\n" + zeros + "\n\n"
	good := "sig b e 258 YWI=\n"
	isNote(t, "the word sig", head+good)
	for _, word := range []string{"", "si", "sigs", "Sig", "SIG", "sigsig", "gis", "note", "s", " sig", "sig ", "\tsig", "sig\t", "sig sig", "b", "\u017fig", "sig\x00"} {
		bad := word + good[3:]
		noNote(t, "the word "+word, head+bad)
		noNote(t, "the word "+word, head+good+bad)
		noNote(t, "the word "+word, head+bad+good)
	}
	for _, line := range []string{"sig", "sig ", "sig b", "sig b ", "sig b e", "sig b e ", "sig b e 258", "sig b e 258 ", "b e 258 YWI=", "e 258 YWI=", "258 YWI=", "YWI=", "sig b 258 e YWI=", "sig e b 258 YWI=", "sig b e YWI= 258", "sig b e YWI=", "sig e 258 YWI=", "sig b 258 YWI=", "sig  b e 258 YWI=", "sig b e 258 YWI= 1"} {
		noNote(t, line, head+line+"\n")
		noNote(t, line, head+line)
		noNote(t, line, head+good+line+"\n")
		noNote(t, line, head+line+"\n"+good)
	}
}

// P21.1: blanks, where there is none, and two of them for one.
func TestReadBlanks(t *testing.T) {
	r := newRand()
	note := plainNote(someHead(r), someSigs(r, 2))
	for i := range note {
		noNote(t, "a blank more", note[:i]+" "+note[i:])
		noNote(t, "a tab more", note[:i]+"\t"+note[i:])
		if note[i] == ' ' {
			noNote(t, "two blanks", note[:i]+"  "+note[i+1:])
			noNote(t, "no blank", note[:i]+note[i+1:])
			noNote(t, "a tab", note[:i]+"\t"+note[i+1:])
			noNote(t, "a line end", note[:i]+"\n"+note[i+1:])
		}
	}
	noNote(t, "a blank behind it", note+" ")
}

// P21.1: a line end more, one fewer, and another one, at every line.
func TestReadLineEnds(t *testing.T) {
	r := newRand()
	for n := range 4 {
		note := plainNote(someHead(r), someSigs(r, n))
		isNote(t, "as it is", note)
		for i := range note {
			if note[i] != '\n' {
				continue
			}
			noNote(t, "two line ends", note[:i]+"\n\n"+note[i+1:])
			noNote(t, "no line end", note[:i]+note[i+1:])
			noNote(t, "a carriage return", note[:i]+"\r"+note[i+1:])
			noNote(t, "a carriage return more", note[:i]+"\r\n"+note[i+1:])
			noNote(t, "a carriage return behind it", note[:i]+"\n\r"+note[i+1:])
			noNote(t, "a blank", note[:i]+" "+note[i+1:])
		}
		noNote(t, "only carriage returns", strings.ReplaceAll(note, "\n", "\r\n"))
		noNote(t, "an empty line ahead", "\n"+note)
		noNote(t, "no empty line", strings.Replace(note, "\n\n", "\n", 1))
		noNote(t, "two empty lines", strings.Replace(note, "\n\n", "\n\n\n", 1))
		noNote(t, "another empty line", strings.Replace(note, "\n\n", "\n \n", 1))
		noNote(t, "a line in its place", strings.Replace(note, "\n\n", "\nb\n", 1))
		noNote(t, "a line in its place", strings.Replace(note, "\n\n", "\nsig b e 258 YWI=\n", 1))
		noNote(t, "twice", note+note)
	}
}

// P21.1, R3: texts of up to MaxText bytes that are no notes are of no form, whatever they begin with; longer ones are too long, whatever they are.
func TestReadLongTexts(t *testing.T) {
	r := newRand()
	h, sigs := greatest(r)
	for _, begin := range []string{"", "a\n0\n" + zeros + "\n\n", plainNote(someHead(r), someSigs(r, 3)), plainNote(h, sigs)} {
		for _, fill := range []string{"\n", " ", "a", "\x00", "\u00e9", "sig b e 258 YWI=\n", "AAAA"} {
			all := begin + strings.Repeat(fill, 2000)
			for _, size := range []int{api.MaxText - 1, api.MaxText} {
				readIs(t, "a long text", filled(all, fill, size), Head{}, nil, api.ErrForm)
			}
			for _, size := range []int{api.MaxText + 1, api.MaxText + 2, 2 * api.MaxText} {
				readIs(t, "too long a text", filled(all, fill, size), Head{}, nil, api.ErrLong)
			}
		}
	}
	readIs(t, "a very long text", strings.Repeat(plainNote(h, sigs), 1000), Head{}, nil, api.ErrLong)
}

// filled answers a text of that size: as much of all, and so often fill.
func filled(all, fill string, size int) string {
	for len(all) < size {
		all += fill
	}
	return all[:size]
}

// P21.1: the empty text, and such of few bytes, are no notes.
func TestReadShortTexts(t *testing.T) {
	noNote(t, "the empty text", "")
	for n := 1; n <= 8; n++ {
		for _, one := range []string{"\n", " ", "a", "0", "a\n", "\n0", "sig "} {
			noNote(t, "a short text", strings.Repeat(one, n))
		}
	}
	for _, s := range []string{"a\n0\n", "a\n0\n" + zeros, "a\n0\n" + zeros + "\n", "a\n0\n\n", "a\n0\n\n\n", "\n0\n" + zeros + "\n\n", "a\n\n" + zeros + "\n\n", "0\n" + zeros + "\n\n", "a\n" + zeros + "\n\n", zeros + "\n\n"} {
		noNote(t, "a part", s)
	}
}

// P21.1: origins and names are read, if they are names.
func TestReadNames(t *testing.T) {
	for _, name := range someNames() {
		isNote(t, name, name+"\n0\n"+zeros+"\n\n")
		isNote(t, name, "a\n0\n"+zeros+"\n\nsig "+name+" e 258 YWI=\n")
	}
	for _, name := range noNames() {
		if len(name) < 1000 {
			noNote(t, name, name+"\n0\n"+zeros+"\n\n")
			noNote(t, name, "a\n0\n"+zeros+"\n\nsig "+name+" e 258 YWI=\n")
		}
	}
}

// P21.1: MaxSigs signatures are read, and not one more.
func TestReadCounts(t *testing.T) {
	r := newRand()
	for range 20 {
		h, sigs := someHead(r), someSigs(r, 20)
		for n := range len(sigs) + 1 {
			if note := plainNote(h, sigs[:n]); len(note) > api.MaxText {
				continue
			} else if n <= api.MaxSigs {
				readIs(t, fmt.Sprint(n), note, h, sigs[:n], api.OK)
			} else {
				noNote(t, fmt.Sprint(n), note)
			}
		}
	}
	one := Sig{"b", 'e', 258, []byte("ab")}
	noNote(t, "many", plainNote(Head{Origin: "a"}, slices.Repeat([]Sig{one}, 200)))
}

// P21.2: a right signature of either kind is right, of its own head and key, and of no other.
func TestRight(t *testing.T) {
	r := newRand()
	h := someHead(r)
	text, _ := plainText(h)
	all := []signer{ofEcdsa("log.example", api.Nat{7}), ofEddsa("w1", api.Hash{9}), ofEddsa("log.example", api.Hash{9}), ofEcdsa("w1", api.Nat{7}), ofEcdsa("w1", api.Nat{8}), ofEddsa("w1", api.Hash{8})}
	for i, a := range all {
		s := a.sig(text)
		for j, b := range all {
			right(t, fmt.Sprintf("%d by %d", i, j), h, s, b.key, i == j)
		}
	}
}

// P21.2: so is each that is made of any head, written and read.
func TestRightManyHeads(t *testing.T) {
	r := newRand()
	for _, name := range someNames() {
		for _, a := range signers(name) {
			h := someHead(r)
			h.Size = someSizes[r.IntN(len(someSizes))]
			text, _ := Text(h)
			note, e := Write(h, []Sig{a.sig(text)})
			g, list, f := Read(note)
			if e != api.OK || f != api.OK || len(list) != 1 {
				t.Fatalf("%d, %d of %q", e, f, note)
			}
			right(t, "read", g, list[0], a.key, true)
		}
	}
}

// P21.2: of another origin, size or root, and of a bit of them, it isn't right.
func TestRightOtherHeads(t *testing.T) {
	h := Head{"log.example", 12, api.Hash{1, 2, 3}}
	text, _ := plainText(h)
	for _, a := range signers("w") {
		s := a.sig(text)
		right(t, "its own", h, s, a.key, true)
		for _, other := range []Head{{"log.exampld", 12, h.Root}, {"log.example2", 12, h.Root}, {"Log.example", 12, h.Root}, {"w", 12, h.Root}, {h.Origin, 13, h.Root}, {h.Origin, 11, h.Root}, {h.Origin, 0, h.Root}, {h.Origin, 120, h.Root}, {h.Origin, math.MaxInt32, h.Root}, {h.Origin, 12, api.Hash{}}, {h.Origin, 12, api.Hash{1, 2}}} {
			right(t, "another head", other, s, a.key, false)
		}
		for bit := 0; bit < 256; bit += 17 {
			other := h
			other.Root[bit/8] ^= 1 << (bit % 8)
			right(t, "another root", other, s, a.key, false)
		}
	}
}

// P21.2: of what is no head nothing is right, not even the signature of what its text would be.
func TestRightNoHead(t *testing.T) {
	r := newRand()
	for _, h := range noHeads(r) {
		text := strings.TrimSuffix(plainNote(h, nil), "\n")
		a := signers("w")[1]
		right(t, "no head", h, a.sig(text), a.key, false)
	}
	for _, h := range []Head{{"", 0, api.Hash{}}, {"a", -1, api.Hash{}}, {"a", 1 << 31, api.Hash{}}, {"a b", 1, api.Hash{}}} {
		a := signers("w")[0]
		right(t, "no head", h, a.sig(strings.TrimSuffix(plainNote(h, nil), "\n")), a.key, false)
		right(t, "no head, and no text", h, a.sig(""), a.key, false)
	}
}

// P21.2: a signature that says another name, kind or number than the key's isn't right.
func TestRightOtherNamings(t *testing.T) {
	h := Head{"log.example", 12, api.Hash{1}}
	text, _ := plainText(h)
	for _, a := range signers("w") {
		s := a.sig(text)
		for _, name := range append(noNames(), "W", "w1", "v", "ww", "log.example") {
			other := s
			other.Name = name
			right(t, "another name", h, other, a.key, false)
		}
		for kind := range 256 {
			other := s
			other.Kind = byte(kind)
			right(t, "another kind", h, other, a.key, byte(kind) == s.Kind)
		}
		for bit := range 32 {
			other := s
			other.Number ^= 1 << bit
			right(t, "another number", h, other, a.key, false)
		}
		for _, number := range []uint32{0, s.Number + 1, s.Number - 1, math.MaxUint32} {
			other := s
			other.Number = number
			right(t, "another number", h, other, a.key, false)
		}
	}
}

// P21.2: a key that has another name or kind than the signature says isn't its own, with its own number, or with the signature's.
func TestRightOtherKeys(t *testing.T) {
	h := Head{"log.example", 12, api.Hash{1}}
	text, _ := plainText(h)
	for _, a := range signers("w") {
		s := a.sig(text)
		for _, k := range []Key{{"v", a.key.Kind, a.key.Public}, {"W", a.key.Kind, a.key.Public}, {"w\n", a.key.Kind, a.key.Public}, {"", a.key.Kind, a.key.Public}, {"w", 'e' + 'p' - a.key.Kind, a.key.Public}, {"w", 0, a.key.Public}} {
			right(t, "another key", h, s, k, false)
			numbered := s
			numbered.Number = plainNumber(k)
			right(t, "another key, and its number", h, numbered, k, false)
		}
	}
}

// P21.2: of a key whose name is none no signature is right, that says the same.
func TestRightKeyNames(t *testing.T) {
	h := Head{"log.example", 12, api.Hash{1}}
	text, _ := plainText(h)
	for _, name := range noNames() {
		for _, a := range signers(name) {
			right(t, "a key of no name", h, a.sig(text), a.key, false)
		}
	}
}

// P21.2: of a key of a kind that is neither no signature is right, that says the same.
func TestRightKeyKinds(t *testing.T) {
	h := Head{"log.example", 12, api.Hash{1}}
	text, _ := plainText(h)
	for _, a := range signers("w") {
		own := a.sig(text)
		for kind := range 256 {
			k := a.key
			k.Kind = byte(kind)
			right(t, fmt.Sprintf("the kind %d", kind), h, Sig{k.Name, k.Kind, plainNumber(k), own.Bytes}, k, k.Kind == own.Kind)
		}
	}
}

// P21.2, R1: of a key without bytes, or of bytes that are none's, no signature is right, that says its number.
func TestRightKeyBytes(t *testing.T) {
	r := newRand()
	h := Head{"log.example", 12, api.Hash{1}}
	text, _ := plainText(h)
	neutral := ecdsa.Verify([]byte{0}, []byte(text), []byte{48, 6, 2, 1, 1, 2, 1, 1})
	if neutral {
		t.Error("the neutral point is a key")
	}
	for _, a := range signers("w") {
		for _, public := range [][]byte{nil, {}, {0}, {4}, a.key.Public[1:], a.key.Public[:len(a.key.Public)-1], append(slices.Clone(a.key.Public), 0), append([]byte{0}, a.key.Public...), slices.Repeat(a.key.Public, 2), make([]byte, 65), bytes.Repeat([]byte{255}, 32), someBytes(r, 65), someBytes(r, 3000)} {
			other := a
			other.key.Public = public
			right(t, fmt.Sprintf("%d bytes", len(public)), h, other.sig(text), other.key, false)
		}
	}
}

// P21.2, R1: signatures of no bytes, of a byte fewer or more, and of others that are none.
func TestRightSigBytes(t *testing.T) {
	r := newRand()
	h := Head{"log.example", 12, api.Hash{1}}
	text, _ := plainText(h)
	for _, a := range signers("w") {
		s := a.sig(text)
		for _, b := range [][]byte{nil, {}, {0}, s.Bytes[1:], s.Bytes[:len(s.Bytes)-1], append(slices.Clone(s.Bytes), 0), append([]byte{0}, s.Bytes...), slices.Repeat(s.Bytes, 2), make([]byte, 64), make([]byte, len(s.Bytes)), someBytes(r, 64), someBytes(r, 71), {48, 6, 2, 1, 0, 2, 1, 0}, someBytes(r, 3000)} {
			other := s
			other.Bytes = b
			right(t, fmt.Sprintf("%d bytes", len(b)), h, other, a.key, false)
		}
	}
}

// P21.2: one bit of the signature changed, or of the key: each third one, so that each byte has some.
func TestRightBits(t *testing.T) {
	h := Head{"log.example", 12, api.Hash{1}}
	text, _ := plainText(h)
	for _, a := range signers("w") {
		s := a.sig(text)
		for bit := 0; bit < 8*len(s.Bytes); bit += 3 {
			other := s
			other.Bytes = slices.Clone(s.Bytes)
			other.Bytes[bit/8] ^= 1 << (bit % 8)
			if Right(h, other, a.key) {
				t.Errorf("right with the bit %d changed", bit)
			}
		}
		for bit := 0; bit < 8*len(a.key.Public); bit += 3 {
			k := a.key
			k.Public = slices.Clone(k.Public)
			k.Public[bit/8] ^= 1 << (bit % 8)
			numbered := s
			numbered.Number = plainNumber(k)
			if Right(h, s, k) || Right(h, numbered, k) {
				t.Errorf("right with the bit %d of the key changed", bit)
			}
		}
	}
}

// P21.2: right is what layers 11 and 12 hold for right: a signature with other bytes of the same pair, or with n - s, or of a key of few multiples.
func TestRightAsLayersSay(t *testing.T) {
	h := Head{"log.example", 12, api.Hash{1}}
	text, _ := plainText(h)
	// The neutral point's bytes, as a key and as R, with S 0: right of every message.
	neutral := make([]byte, 32)
	neutral[0] = 1
	k := Key{"w", 'e', neutral}
	s := Sig{"w", 'e', plainNumber(k), append(slices.Clone(neutral), make([]byte, 32)...)}
	if !eddsa.Verify(neutral, []byte(text), s.Bytes) || !Right(h, s, k) {
		t.Error("not right, as layer 12 says")
	}
	k.Kind = 'p'
	s.Kind, s.Number = 'p', plainNumber(k)
	if Right(h, s, k) {
		t.Error("right, of the other kind")
	}
}

// R1: Text, Number, Write and Right of zero values, and of very long ones.
func TestZeroValues(t *testing.T) {
	textIs(t, Head{})
	numberIs(t, Key{})
	writeIs(t, "no head", Head{}, nil, "", api.ErrArg)
	right(t, "nothing", Head{}, Sig{}, Key{}, false)
	right(t, "nothing of a head", Head{Origin: "a"}, Sig{}, Key{}, false)
	right(t, "nothing of a head, with a number", Head{Origin: "a"}, Sig{Number: plainNumber(Key{})}, Key{}, false)
	long := strings.Repeat("n", 1<<20)
	textIs(t, Head{Origin: long})
	numberIs(t, Key{long, 'e', make([]byte, 1<<20)})
	writeIs(t, "a long name", Head{Origin: "a"}, []Sig{{long, 'e', 1, []byte{1}}}, "", api.ErrArg)
	writeIs(t, "a long signature", Head{Origin: "a"}, []Sig{{"b", 'e', 1, make([]byte, 1<<20)}}, "", api.ErrArg)
	right(t, "a long name", Head{Origin: "a"}, Sig{long, 'e', plainNumber(Key{long, 'e', nil}), []byte{1}}, Key{long, 'e', nil}, false)
}

// roomy answers a copy of the bytes, with room behind them that isn't 0, and all of the memory.
func roomy(b []byte) ([]byte, []byte) {
	all := append(slices.Clone(b), bytes.Repeat([]byte{0xa5}, 16)...)
	return all[:len(b)], all
}

// roomySigs answers a copy of the signatures, with room behind them and behind the bytes of each, and all of the memory.
func roomySigs(sigs []Sig) ([]Sig, []Sig, [][]byte) {
	all := slices.Clone(sigs)
	var memory [][]byte
	for i := range all {
		b, whole := roomy(all[i].Bytes)
		all[i].Bytes = b
		memory = append(memory, whole)
	}
	all = append(all, Sig{"room", 'x', 77, []byte{7}}, Sig{"room", 'x', 77, nil})
	return all[:len(sigs)], all, memory
}

// cloned answers a copy of the lists.
func cloned(lists [][]byte) [][]byte {
	var copies [][]byte
	for _, b := range lists {
		copies = append(copies, slices.Clone(b))
	}
	return copies
}

// R5: what is handed in to Write stays as it is, its room too, whether it is written or not.
func TestWriteLeavesArguments(t *testing.T) {
	r := newRand()
	for n := range 11 {
		for _, size := range []int{1, 2, 3, 64, 80, 81} {
			sigs, all, memory := roomySigs(someSigs(r, n))
			if n > 0 {
				sigs[n/2].Bytes, memory[n/2] = roomy(someBytes(r, size))
			}
			before, bytesBefore := slices.Clone(all), cloned(memory)
			h := someHead(r)
			note, _ := Write(h, sigs)
			if !sameSigs(all, before) || !slices.EqualFunc(memory, bytesBefore, bytes.Equal) {
				t.Fatalf("%d signatures were changed", n)
			}
			again := strings.Clone(note)
			for _, b := range memory {
				clear(b)
			}
			clear(all)
			if note != again {
				t.Fatalf("the note of %d signatures hangs on them", n)
			}
		}
	}
}

// R5: what is handed in to Right and Number stays as it is, its room too.
func TestRightLeavesArguments(t *testing.T) {
	h := Head{"log.example", 12, api.Hash{1}}
	text, _ := plainText(h)
	for _, a := range signers("w") {
		s, k := a.sig(text), a.key
		var sigMemory, keyMemory []byte
		s.Bytes, sigMemory = roomy(s.Bytes)
		k.Public, keyMemory = roomy(k.Public)
		before := cloned([][]byte{sigMemory, keyMemory})
		for _, other := range []Head{h, {"a", 1, api.Hash{}}, {}} {
			if Right(other, s, k) != (other == h) || Number(k) != plainNumber(a.key) {
				t.Errorf("the room behind a list is taken for it")
			}
		}
		if !bytes.Equal(sigMemory, before[0]) || !bytes.Equal(keyMemory, before[1]) {
			t.Errorf("what was handed in was changed")
		}
	}
}

// R5, R7, P21.3: what Read tells is memory of its own: each signature's bytes, up to the end of their room, the list, and the names.
func TestReadOwnMemory(t *testing.T) {
	r := newRand()
	for n := range api.MaxSigs + 1 {
		h, sigs := someHead(r), someSigs(r, n)
		note := plainNote(h, sigs)
		_, other, _ := Read(note)
		got, list, _ := Read(note)
		for i := range list {
			b := list[i].Bytes
			b = b[:cap(b)]
			for at := range b {
				b[at] ^= 0xff
			}
			list[i].Name, list[i].Number = "changed", 0
			for j := range list {
				if j > i && !bytes.Equal(list[j].Bytes, sigs[j].Bytes) {
					t.Fatalf("the bytes of %d hang on those of %d", j, i)
				}
			}
		}
		clear(list[:cap(list)])
		got.Root[0] ^= 1
		if !sameSigs(other, sigs) {
			t.Fatalf("two answers of %d signatures hang on one another", n)
		}
		readIs(t, "again", note, h, sigs, api.OK)
	}
}

// R5: the names that Read and Write tell hold no piece of what was handed in.
func TestNamesOwnMemory(t *testing.T) {
	r := newRand()
	h, sigs := someHead(r), someSigs(r, 4)
	h.Origin, sigs[1].Name = "log.example", "witness"
	note := plainNote(h, sigs)
	got, list, _ := Read(note)
	for _, name := range []string{got.Origin, list[0].Name, list[1].Name, list[3].Name} {
		if within(name, note) {
			t.Errorf("%q is a piece of the note", name)
		}
	}
}

// within answers whether a is a piece of b's memory.
func within(a, b string) bool {
	from, to := uintptr(unsafe.Pointer(unsafe.StringData(b))), uintptr(unsafe.Pointer(unsafe.StringData(a)))
	return to >= from && to < from+uintptr(len(b))
}

// P2, R7: calls in between don't change an answer.
func TestAnswersDoNotHangOnCalls(t *testing.T) {
	r := newRand()
	heads, lists := []Head{}, [][]Sig{}
	for range 50 {
		heads, lists = append(heads, someHead(r)), append(lists, someSigs(r, r.IntN(9)))
	}
	for range 500 {
		i := r.IntN(len(heads))
		switch r.IntN(4) {
		case 0:
			textIs(t, heads[i])
		case 1:
			writeIs(t, "one of many", heads[i], lists[i], plainNote(heads[i], lists[i]), api.OK)
		case 2:
			readIs(t, "one of many", plainNote(heads[i], lists[i]), heads[i], lists[i], api.OK)
		case 3:
			noNote(t, "one of many", plainNote(heads[i], lists[i])+"\n")
		}
	}
}
