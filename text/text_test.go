package text

import (
	"bytes"
	"encoding/base64"
	"math"
	"math/big"
	"math/rand/v2"
	"strings"
	"testing"

	"chronicle/api"
)

// inOrder are the signs for 0 to 63, as the chapter lists them, made apart from the program's own.
func inOrder() string {
	var list []byte
	for _, ends := range []string{"AZ", "az", "09"} {
		for c := ends[0]; c <= ends[1]; c++ {
			list = append(list, c)
		}
	}
	return string(append(list, '+', '/'))
}

func newRand() *rand.Rand { return rand.New(rand.NewPCG(4, 11)) }

// samples are bytes of all lengths from 0 on: all alike, counted up, and some that follow no rule.
func samples() [][]byte {
	r := newRand()
	list := [][]byte{nil, {}}
	for n := range 70 {
		counted, chance := make([]byte, n), make([]byte, n)
		for i := range n {
			counted[i] = byte(i + 1)
			chance[i] = byte(r.Uint32())
		}
		list = append(list, make([]byte, n), bytes.Repeat([]byte{0xff}, n), counted, chance)
	}
	for _, n := range []int{255, 256, 257, 4095, 4096, 4097} {
		chance := make([]byte, n)
		for i := range n {
			chance[i] = byte(r.Uint32())
		}
		list = append(list, chance)
	}
	return list
}

// byStandard answers what the standard library's strict reading says, which lets pass line ends that are no signs.
func byStandard(s string) ([]byte, bool) {
	if strings.ContainsAny(s, "\r\n") {
		return nil, false
	}
	b, err := base64.StdEncoding.Strict().DecodeString(s)
	if err != nil {
		return nil, false
	}
	return b, true
}

// agrees holds Decode(s) to the standard library's reading, and to P4.2.
func agrees(t *testing.T, s string) bool {
	t.Helper()
	got, ok := Decode(s)
	want, wantOK := byStandard(s)
	if !bytes.Equal(got, want) || ok != wantOK {
		t.Errorf("Decode(%q) = %v, %v, want %v, %v", s, got, ok, want, wantOK)
	}
	if ok && Encode(got) != s {
		t.Errorf("Encode(Decode(%q)) = %q", s, Encode(got))
	}
	return ok
}

// refused holds Decode(s) to none and false.
func refused(t *testing.T, s string) {
	t.Helper()
	if got, ok := Decode(s); len(got) != 0 || ok {
		t.Errorf("Decode(%q) = %v, %v, want none, false", s, got, ok)
	}
}

// P4.1: the chapter's example, and texts that were worked by hand.
func TestTextsByHand(t *testing.T) {
	for _, c := range []struct{ b, s string }{
		{"", ""},
		{"a", "YQ=="},
		{"ab", "YWI="},
		{"abc", "YWJj"},
		{"abcd", "YWJjZA=="},
		{"abcde", "YWJjZGU="},
		{"abcdef", "YWJjZGVm"},
		{"\x00", "AA=="},
		{"\x00\x00", "AAA="},
		{"\x00\x00\x00", "AAAA"},
		{"\x00\x00\x00\x00", "AAAAAA=="},
		{"\xff", "/w=="},
		{"\xff\xff", "//8="},
		{"\xff\xff\xff", "////"},
		{"\xff\xff\xff\xff", "/////w=="},
		{"\xfb\xef\xbe", "++++"},
		{"\x00\x10\x83\x10", "ABCDEA=="},
		{"\x01", "AQ=="},
		{"\x80", "gA=="},
		{"\x00\x01", "AAE="},
		{"\x00\x80", "AIA="},
		{"\x00\x00\x01", "AAAB"},
	} {
		if got := Encode([]byte(c.b)); got != c.s {
			t.Errorf("Encode(%q) = %q, want %q", c.b, got, c.s)
		}
		if got, ok := Decode(c.s); string(got) != c.b || !ok {
			t.Errorf("Decode(%q) = %q, %v, want %q, true", c.s, got, ok, c.b)
		}
	}
}

// P4.1, R5: no bytes are nil as well as empty, and have the empty text, which isn't none's.
func TestNoBytes(t *testing.T) {
	for _, b := range [][]byte{nil, {}, []byte("abc")[:0]} {
		if got := Encode(b); got != "" {
			t.Errorf("Encode of no bytes = %q", got)
		}
	}
	if got, ok := Decode(""); len(got) != 0 || !ok {
		t.Errorf("Decode of the empty text = %v, %v, want none, true", got, ok)
	}
}

// P4.1: each sign stands for its number, in each of a group's four places.
func TestEachSignInEachPlace(t *testing.T) {
	for six, sign := range []byte(inOrder()) {
		for place := range 4 {
			bits := uint32(six) << (18 - 6*place)
			b := []byte{byte(bits >> 16), byte(bits >> 8), byte(bits)}
			s := []byte("AAAA")
			s[place] = sign
			if got := Encode(b); got != string(s) {
				t.Errorf("Encode(%x) = %q, want %q", b, got, s)
			}
			if got, ok := Decode(string(s)); !bytes.Equal(got, b) || !ok {
				t.Errorf("Decode(%q) = %x, %v, want %x, true", s, got, ok, b)
			}
		}
	}
}

// P4.1
func TestTextsAsTheStandardWritesThem(t *testing.T) {
	for _, b := range samples() {
		if got, want := Encode(b), base64.StdEncoding.EncodeToString(b); got != want {
			t.Errorf("Encode(%x) = %q, want %q", b, got, want)
		}
	}
	for first := range 256 {
		for second := range 256 {
			b := []byte{byte(first), byte(second)}
			if got, want := Encode(b), base64.StdEncoding.EncodeToString(b); got != want {
				t.Errorf("Encode(%x) = %q, want %q", b, got, want)
			}
		}
	}
}

// P4.1, P4.2: of all texts of two bytes and ==, just 256 are a byte's.
func TestTextsOfOneByte(t *testing.T) {
	count := 0
	for first := range 256 {
		for second := range 256 {
			if agrees(t, string([]byte{byte(first), byte(second), '=', '='})) {
				count++
			}
		}
	}
	if count != 256 {
		t.Errorf("%d texts are taken for one byte, want 256", count)
	}
}

// P4.1, P4.2: of all texts of three signs and =, just 256 * 256 are two bytes'.
func TestTextsOfTwoBytes(t *testing.T) {
	all := inOrder()
	count := 0
	for i := range all {
		for j := range all {
			for third := range 256 {
				// With a second = in the third place it is a text of one byte.
				if agrees(t, string([]byte{all[i], all[j], byte(third), '='})) && third != '=' {
					count++
				}
			}
		}
	}
	if count != 256*256 {
		t.Errorf("%d texts are taken for two bytes, want 256 * 256", count)
	}
}

// P4.1: the last sign's bits that stand for nothing are noughts, behind whole groups too.
func TestBitsThatStandForNothing(t *testing.T) {
	for six, sign := range []byte(inOrder()) {
		for _, ahead := range []string{"", "YWJj", "////YWJj"} {
			one := ahead + "Y" + string(sign) + "=="
			if _, ok := Decode(one); ok != (six%16 == 0) {
				t.Errorf("Decode(%q) says %v", one, ok)
			}
			two := ahead + "YW" + string(sign) + "="
			if _, ok := Decode(two); ok != (six%4 == 0) {
				t.Errorf("Decode(%q) says %v", two, ok)
			}
			if _, ok := Decode(ahead + "YWJ" + string(sign)); !ok {
				t.Errorf("Decode(%q) says false", ahead+"YWJ"+string(sign))
			}
		}
	}
	for _, s := range []string{"YR==", "YS==", "YY==", "Yf==", "YWJ=", "YWK=", "YWL=", "//9=", "/x=="} {
		refused(t, s)
	}
}

// P4.1: what ends early, or goes on behind a whole text, is no text.
func TestLengthsThatAreNoMultipleOfFour(t *testing.T) {
	for _, whole := range []string{"YQ==", "YWI=", "YWJj", "YWJjZA==", "YWJjZGU=", "YWJjZGVm", "AAAAAAAAAAAA"} {
		for n := range len(whole) {
			if n%4 != 0 {
				refused(t, whole[:n])
				refused(t, whole[n:])
			}
		}
		for _, more := range []string{"Y", "YQ", "YWI", "=", "==", "===", "A", "AA", "AAA"} {
			refused(t, whole+more)
			refused(t, more+whole)
		}
	}
	for _, s := range []string{"Y", "YQ", "YQ=", "YWI", "=", "==", "===", "YWJjZA", "YWJjZA=", "YWJjZGU"} {
		refused(t, s)
	}
}

// P4.1: = stands at the end, once or twice, as the bytes left over ask.
func TestPadsInWrongPlaces(t *testing.T) {
	for _, s := range []string{
		"====", "Y===", "YWJj====", "YWJjY===", "========", "YQ======", "YWI=====",
		"=YQ=", "==YQ", "=YWI", "Y=Q=", "Y=WI", "YQ=Q", "YW=I", "Y==Q", "Y=I=", "=Q==", "=WI=", "=WJj", "Y=Jj", "YW=j",
		"YQ==YQ==", "YWI=YWI=", "YQ==YWJj", "YWI=YWJj", "=WJjYWJj", "YWJj=WJj", "YWJjY=Jj", "YWJjYW=j", "YWJ=YWJj",
	} {
		refused(t, s)
	}
}

// P4.1, P4.2: all texts of up to eight signs from a short list, = and some that are none among them.
func TestShortTextsAsTheStandardReadsThem(t *testing.T) {
	var grow func(s, list string, left int)
	grow = func(s, list string, left int) {
		agrees(t, s)
		if left == 0 {
			return
		}
		for i := range len(list) {
			grow(s+list[i:i+1], list, left-1)
		}
	}
	grow("", "=AQw/-", 6)
	grow("", "=Ag", 8)
}

// P4.1: a byte that is no sign is refused in each place, and each sign in a whole group's is taken.
func TestBytesThatAreNoSigns(t *testing.T) {
	all := inOrder()
	for _, whole := range []string{"AAAA", "AA==", "AAA=", "AAAAAAAA", "AAAAAA==", "AAAAAAA="} {
		for place := range whole {
			for c := range 256 {
				s := []byte(whole)
				s[place] = byte(c)
				agrees(t, string(s))
				if c != '=' && strings.IndexByte(all, byte(c)) < 0 {
					refused(t, string(s))
				}
			}
		}
	}
	for _, s := range []string{
		"Y Q=", " YQ==", "YQ== ", "YQ==\n", "YWJ\n", "\nYWJj\n\r\n", "YW\r\nJjY", "YW-_", "YWJ\x00", "\x00\x00\x00\x00",
		"Y\u00c4=", "YQ\xff\xff", "\uff21=", "\u00e9==", "\u00e9\u00e9", "YWJ.", "YWJ,", "YWJ*", "YWJ:", "YWJ@", "YWJ[", "YWJ`", "YWJ{",
	} {
		refused(t, s)
	}
}

// P4.2
func TestWhatIsEncodedIsDecoded(t *testing.T) {
	for _, b := range samples() {
		if got, ok := Decode(Encode(b)); !bytes.Equal(got, b) || !ok {
			t.Errorf("Decode(Encode(%x)) = %x, %v", b, got, ok)
		}
	}
}

// P4.2: one sign changed is another text of other bytes, or none's.
func TestWhatIsDecodedIsEncodedAgain(t *testing.T) {
	r := newRand()
	with := inOrder() + "=====-_ \n"
	for _, b := range samples() {
		s := []byte(Encode(b))
		agrees(t, string(s))
		for range min(len(s), 40) {
			changed := bytes.Clone(s)
			place := r.IntN(len(s))
			if r.IntN(2) == 0 {
				// The end is where a text can be wrong in most ways.
				place = len(s) - 1 - r.IntN(min(8, len(s)))
			}
			changed[place] = with[r.IntN(len(with))]
			agrees(t, string(changed))
		}
	}
}

// R5: bytes that are handed in stay as they are, and so does their spare room.
func TestBytesHandedInStay(t *testing.T) {
	for n := range 20 {
		room := make([]byte, n+40)
		for i := range room {
			room[i] = byte(200 + i)
		}
		was := bytes.Clone(room)
		got := Encode(room[:n])
		if !bytes.Equal(room, was) {
			t.Errorf("%d bytes that were handed in, or those behind them, were changed", n)
		}
		want := strings.Clone(got)
		clear(room)
		if got != want || want != Encode(was[:n]) {
			t.Errorf("the text of %d bytes changed with them, or hangs on what stands behind them", n)
		}
	}
}

// R5: what is answered is new memory.
func TestAnswersShareNothing(t *testing.T) {
	for _, s := range []string{"YQ==", "YWI=", "YWJj", "YWJjZGVmZ2hp"} {
		one, _ := Decode(s)
		two, _ := Decode(s)
		want := bytes.Clone(two)
		clear(one[:cap(one)])
		if again, _ := Decode(s); !bytes.Equal(two, want) || !bytes.Equal(again, want) {
			t.Errorf("the bytes of %q changed with others that were answered", s)
		}
	}
}

// numbers are the ends of a uint64, those about each power of ten and of two, and some that follow no rule.
func numbers() []uint64 {
	list := []uint64{0, 1, 7, 9, 10, 11, 99, 100, 101, math.MaxInt64, math.MaxInt64 + 1, math.MaxUint64 - 1, math.MaxUint64}
	ten := uint64(1)
	for range 20 {
		list = append(list, ten-1, ten, ten+1)
		ten *= 10
	}
	r := newRand()
	for i := range 64 {
		two := uint64(1) << i
		list = append(list, two-1, two, two+1, r.Uint64(), r.Uint64()>>i)
	}
	return list
}

// P4.1
func TestDigitsByHand(t *testing.T) {
	for _, c := range []struct {
		n uint64
		s string
	}{
		{0, "0"},
		{1, "1"},
		{9, "9"},
		{10, "10"},
		{70, "70"},
		{100, "100"},
		{1234567890, "1234567890"},
		{1 << 32, "4294967296"},
		{1<<63 - 1, "9223372036854775807"},
		{1 << 63, "9223372036854775808"},
		{10000000000000000000, "10000000000000000000"},
		{1<<64 - 2, "18446744073709551614"},
		{1<<64 - 1, "18446744073709551615"},
	} {
		if got := Digits(c.n); got != c.s {
			t.Errorf("Digits(%d) = %q, want %q", c.n, got, c.s)
		}
		if got, ok := Number(c.s); got != c.n || !ok {
			t.Errorf("Number(%q) = %d, %v, want %d, true", c.s, got, ok, c.n)
		}
	}
}

// P4.1: each number is its digits' number, and none is that of more noughts.
func TestNumbersOfDigits(t *testing.T) {
	for _, n := range numbers() {
		s := Digits(n)
		if want := new(big.Int).SetUint64(n).String(); s != want {
			t.Errorf("Digits(%d) = %q, want %q", n, s, want)
		}
		if got, ok := Number(s); got != n || !ok {
			t.Errorf("Number(%q) = %d, %v, want %d, true", s, got, ok, n)
		}
		for _, ahead := range []string{"0", "00", strings.Repeat("0", 20), "+", "-", " ", "0x", "_"} {
			noNumber(t, ahead+s)
		}
		for _, behind := range []string{" ", "\n", ".", ".0", "_", "e0", "x", "\x00"} {
			noNumber(t, s+behind)
		}
	}
}

// noNumber holds Number(s) to 0 and false.
func noNumber(t *testing.T, s string) {
	t.Helper()
	if got, ok := Number(s); got != 0 || ok {
		t.Errorf("Number(%q) = %d, %v, want 0, false", s, got, ok)
	}
}

// P4.1
func TestTextsThatAreNoNumbers(t *testing.T) {
	for _, s := range []string{
		"", "07", "00", "01", "000", "0123456789", "-0", "+0", "-1", "+1", " 1", "1 ", "1\n", "\t1", "1_000", "1,000", "1.0", "1e3",
		"0x10", "0b1", "0o7", "a", "A", "ff", "1a", "a1", "1:", "1/", "/1", ":1", "--1", "inf", "NaN", "\x00", "1\x001", "\xff",
		"\u0661", "\uff11", "\u00b2", "\u00bd", "1\u0661", "\u0967",
	} {
		noNumber(t, s)
	}
	for c := range 256 {
		if c < '0' || c > '9' {
			for _, s := range []string{"", "1", "12"} {
				noNumber(t, string([]byte{byte(c)})+s)
				noNumber(t, s+string([]byte{byte(c)}))
				noNumber(t, "1"+string([]byte{byte(c)})+s)
			}
		}
	}
}

// P4.1: 2^64 and what is above it, what wraps round to a small number among it.
func TestNumbersThatAreTooGreat(t *testing.T) {
	two64 := new(big.Int).Lsh(big.NewInt(1), 64)
	for times := int64(1); times <= 12; times++ {
		for d := int64(0); d <= 20; d++ {
			n := new(big.Int).Mul(two64, big.NewInt(times))
			noNumber(t, n.Add(n, big.NewInt(d)).String())
		}
	}
	for d := int64(-20); d < 0; d++ {
		n := new(big.Int).Add(two64, big.NewInt(d))
		if got, ok := Number(n.String()); got != n.Uint64() || !ok {
			t.Errorf("Number(%s) = %d, %v", n, got, ok)
		}
	}
	for _, s := range []string{
		"18446744073709551616", "18446744073709551620", "18446744073709551700", "19000000000000000000", "20000000000000000000",
		"99999999999999999999", "100000000000000000000", "184467440737095516150", "184467440737095516160",
		"340282366920938463463374607431768211456", strings.Repeat("9", 1000), "1" + strings.Repeat("0", 1000),
	} {
		noNumber(t, s)
	}
}

// mayStand answers whether a name may have c, by the chapter's list.
func mayStand(c byte) bool {
	return c >= 'A' && c <= 'Z' || c >= 'a' && c <= 'z' || c >= '0' && c <= '9' || c == '.' || c == '-' || c == '/'
}

// P4.1: each byte, alone, at the beginning, in the midst and at the end.
func TestSignsOfNames(t *testing.T) {
	for c := range 256 {
		sign := string([]byte{byte(c)})
		for _, s := range []string{sign, sign + "a", "a" + sign, "a" + sign + "b", sign + sign, strings.Repeat("a", api.MaxName-1) + sign} {
			if got := Name(s); got != mayStand(byte(c)) {
				t.Errorf("Name(%q) = %v, want %v", s, got, mayStand(byte(c)))
			}
		}
	}
}

// P4.1
func TestLengthsOfNames(t *testing.T) {
	for n := range 3 * api.MaxName {
		for _, sign := range []string{"a", "Z", "0", ".", "-", "/"} {
			if got, want := Name(strings.Repeat(sign, n)), n >= 1 && n <= 40; got != want {
				t.Errorf("Name of %d times %q = %v, want %v", n, sign, got, want)
			}
		}
	}
	for _, n := range []int{256, 257, 65537, 1 << 20} {
		if Name(strings.Repeat("a", n)) {
			t.Errorf("Name of %d signs = true", n)
		}
	}
}

// P4.1
func TestNamesByHand(t *testing.T) {
	for _, s := range []string{"a", "log.example/a-1", "Z9", "0", ".", "..", "-", "/", "//", "a/b/c", "AZaz09.-/"} {
		if !Name(s) {
			t.Errorf("Name(%q) = false", s)
		}
	}
	for _, s := range []string{
		"", " ", "a b", " a", "a ", "a+b", "a_b", "a\\b", "a\n", "\na", "a\x00", "a=b", "a:b", "a,b", "a@b", "\u00e9", "a\u00e9", "\uff21", "\uff11", "\u0131", "\u212a", "\u017f", "\u2212", "\u2013", "\uff0f", "\xff", "a\xc3",
	} {
		if Name(s) {
			t.Errorf("Name(%q) = true", s)
		}
	}
}
