package mark

import (
	"bytes"
	"fmt"
	"math"
	"slices"
	"testing"

	"chronicle/api"
	"chronicle/disk"
)

// noFate is a fate by which nothing that was written is left.
var noFate = disk.Fate{Torn: -1}

// filled answers a sector's bytes, all of them b.
func filled(b byte) []byte { return bytes.Repeat([]byte{b}, 64) }

// counted answers n bytes that count up from b.
func counted(b byte, n int) []byte {
	list := make([]byte, n)
	for i := range list {
		list[i] = b + byte(i)
	}
	return list
}

// padded answers a sector's bytes: b, and noughts behind it.
func padded(b []byte) []byte {
	return append(slices.Clone(b), make([]byte, 64-len(b))...)
}

func newDisk(t *testing.T, n int) *disk.Disk {
	t.Helper()
	d, e := disk.New(n)
	if e != api.OK {
		t.Fatalf("New(%d): %d", n, e)
	}
	return d
}

// laid answers a disk in whose sectors those bytes last.
func laid(t *testing.T, held ...[]byte) *disk.Disk {
	t.Helper()
	d := newDisk(t, len(held))
	for i, b := range held {
		answers(t, "Write", d.Write(i, b), api.OK)
	}
	answers(t, "Sync", d.Sync(), api.OK)
	return d
}

// numbered answers a disk of n sectors, in which lasts: the sector i is filled with i + 1.
func numbered(t *testing.T, n int) *disk.Disk {
	t.Helper()
	held := [][]byte{}
	for i := range n {
		held = append(held, filled(byte(i+1)))
	}
	return laid(t, held...)
}

// answers holds an error to the one that is wanted.
func answers(t *testing.T, what string, got, want api.Errno) {
	t.Helper()
	if got != want {
		t.Errorf("%s: %d, want %d", what, got, want)
	}
}

// has holds the disk to those bytes in its sectors, one behind the other.
func has(t *testing.T, what string, d *disk.Disk, want ...[]byte) {
	t.Helper()
	if d.Size() != len(want) {
		t.Fatalf("%s: %d sectors, want %d", what, d.Size(), len(want))
	}
	for i, b := range want {
		if got, e := d.Read(i); e != api.OK || !bytes.Equal(got, b) {
			t.Errorf("%s: the sector %d: %x, %d, want %x", what, i, got, e, b)
		}
	}
}

// lasts holds the disk to those bytes, whatever it has that was written and not synced: that is gone then.
func lasts(t *testing.T, what string, d *disk.Disk, want ...[]byte) {
	t.Helper()
	d.Crash(noFate)
	has(t, what+", behind a crash", d, want...)
}

// loads holds the mark's value to those bytes.
func loads(t *testing.T, what string, d *disk.Disk, at int, want []byte) {
	t.Helper()
	if got, e := Load(d, at); e != api.OK || !bytes.Equal(got, want) {
		t.Errorf("%s: Load(%d): %x, %d, want %x", what, at, got, e, want)
	}
}

// refuses holds Load and Mend, and Save of what could be saved, to the error, and Load to no bytes beside it (R3).
func refuses(t *testing.T, what string, d *disk.Disk, at int, want api.Errno) {
	t.Helper()
	b, e := Load(d, at)
	answers(t, fmt.Sprintf("%s: Load(%d)", what, at), e, want)
	if len(b) != 0 {
		t.Errorf("%s: Load(%d): %x", what, at, b)
	}
	for _, b := range [][]byte{nil, {}, {9}, filled(9)} {
		answers(t, fmt.Sprintf("%s: Save(%d) of %d bytes", what, at, len(b)), Save(d, at, b), want)
	}
	answers(t, fmt.Sprintf("%s: Mend(%d)", what, at), Mend(d, at), want)
}

// P14.1: the chapter's example.
func TestExample(t *testing.T) {
	d := newDisk(t, 3)
	answers(t, "Save", Save(d, 0, []byte{1, 2, 3}), api.OK)
	loads(t, "the example", d, 0, padded([]byte{1, 2, 3}))
}

// P14.1: what is saved, with noughts behind it, lasts in the three sectors, and in none beside them, at each place where there are three.
func TestSave(t *testing.T) {
	values := [][]byte{nil, {}, {7}, {0}, {0, 7}, {7, 0}, counted(10, 63), counted(10, 64), filled(255), filled(0)}
	for at := range 6 {
		for _, b := range values {
			what := fmt.Sprintf("Save(%d, %x)", at, b)
			d := numbered(t, 8)
			answers(t, what, Save(d, at, b), api.OK)
			want := [][]byte{}
			for i := range 8 {
				want = append(want, filled(byte(i+1)))
			}
			want[at], want[at+1], want[at+2] = padded(b), padded(b), padded(b)
			has(t, what, d, want...)
			loads(t, what, d, at, padded(b))
			answers(t, what+": Mend", Mend(d, at), api.OK)
			lasts(t, what, d, want...)
		}
	}
}

// P14.1: one Save behind the other: the last one counts, also where it has fewer bytes, and noughts stand behind them.
func TestSaveAgain(t *testing.T) {
	d := newDisk(t, 3)
	for _, n := range []int{64, 10, 0, 1, 63, 64, 2} {
		b := counted(byte(n)+100, n)
		answers(t, "Save", Save(d, 0, b), api.OK)
		loads(t, fmt.Sprint(n, " bytes"), d, 0, padded(b))
		has(t, fmt.Sprint(n, " bytes"), d, padded(b), padded(b), padded(b))
	}
}

// P14.1: a new disk has marks of noughts, and a disk of MaxSectors has one in its last three.
func TestPlaces(t *testing.T) {
	d := newDisk(t, 4096)
	for _, at := range []int{0, 1, 2047, 4092, 4093} {
		loads(t, "a new disk", d, at, filled(0))
		answers(t, "Mend of a new disk", Mend(d, at), api.OK)
	}
	for _, at := range []int{0, 3, 2047, 4093} {
		answers(t, "Save", Save(d, at, []byte{byte(at), 5}), api.OK)
	}
	d.Crash(noFate)
	for _, at := range []int{0, 3, 2047, 4093} {
		loads(t, "the greatest disk", d, at, padded([]byte{byte(at), 5}))
	}
}

// P14.1: of three sectors the value is the third one's, if the second one has the same, else the first one's; Mend writes it into those that haven't it, and it lasts.
func TestValue(t *testing.T) {
	a, b, c := counted(1, 64), counted(90, 64), filled(0)
	for _, v := range []struct {
		what string
		held [3][]byte
		want []byte
	}{
		{"all the same", [3][]byte{a, a, a}, a},
		{"all different", [3][]byte{a, b, c}, a},
		{"all different, noughts ahead", [3][]byte{c, b, a}, c},
		{"the first two the same", [3][]byte{a, a, b}, a},
		{"the last two the same", [3][]byte{a, b, b}, b},
		{"the first and the last the same", [3][]byte{a, b, a}, a},
		{"noughts in the last two", [3][]byte{a, c, c}, c},
	} {
		d := laid(t, a, v.held[0], v.held[1], v.held[2], b)
		loads(t, v.what, d, 1, v.want)
		has(t, v.what+", loaded", d, a, v.held[0], v.held[1], v.held[2], b)
		answers(t, v.what+": Mend", Mend(d, 1), api.OK)
		has(t, v.what+", mended", d, a, v.want, v.want, v.want, b)
		loads(t, v.what+", mended", d, 1, v.want)
		lasts(t, v.what+", mended", d, a, v.want, v.want, v.want, b)
	}
}

// P14.1: two sectors that are the same but for one byte, whichever it is, are different.
func TestValueByEachByte(t *testing.T) {
	a, b := counted(1, 64), counted(90, 64)
	for i := range 64 {
		near := slices.Clone(b)
		near[i] ^= 1
		what := fmt.Sprint("another byte ", i)
		d := laid(t, a, b, near)
		loads(t, what, d, 0, a)
		answers(t, what, Mend(d, 0), api.OK)
		lasts(t, what, d, a, a, a)

		d = laid(t, near, b, b)
		loads(t, what, d, 0, b)
		answers(t, what, Mend(d, 0), api.OK)
		lasts(t, what, d, b, b, b)
	}
}

// P14.1, R1: without a disk all is ErrArg, whatever else is handed in.
func TestNoDisk(t *testing.T) {
	for _, at := range []int{math.MinInt, -3, -1, 0, 1, 4096, math.MaxInt} {
		refuses(t, "no disk", nil, at, api.ErrArg)
		answers(t, "no disk: Save of too much", Save(nil, at, make([]byte, 65)), api.ErrArg)
	}
}

// P14.1, R1, R4: where one, two or all of the three are no sectors, it is ErrRange, and nothing is changed, nor is the fuse any shorter.
func TestRange(t *testing.T) {
	for n := range 6 {
		for _, at := range []int{math.MinInt, math.MinInt + 1, -4096, -4, -3, -2, -1, n - 2, n - 1, n, n + 1, 4096, 1 << 32, math.MaxInt - 2, math.MaxInt - 1, math.MaxInt} {
			what := fmt.Sprintf("%d sectors", n)
			d := numbered(t, n)
			want := [][]byte{}
			for i := range n {
				want = append(want, filled(byte(i+1)))
			}
			refuses(t, what, d, at, api.ErrRange)
			d.SetFuse(0)
			refuses(t, what+" and a fuse of 0", d, at, api.ErrRange)
			if d.Down() {
				t.Errorf("%s: a mark at %d that is refused took the power", what, at)
			}
			has(t, what, d, want...)
			lasts(t, what, d, want...)
		}
	}
}

// P14.1, R1: a disk without anything set has no sectors.
func TestDiskUnset(t *testing.T) {
	for _, at := range []int{-1, 0, 1} {
		refuses(t, "a disk without anything set", &disk.Disk{}, at, api.ErrRange)
	}
}

// P14.1, R4: of more than Sector bytes Save is ErrArg, and nothing is changed, nor is the fuse any shorter.
func TestTooLong(t *testing.T) {
	for _, n := range []int{65, 66, 128, 192, 5000} {
		d := numbered(t, 3)
		d.SetFuse(0)
		what := fmt.Sprint(n, " bytes")
		answers(t, what, Save(d, 0, make([]byte, n)), api.ErrArg)
		if d.Down() {
			t.Errorf("%s: it took the power", what)
		}
		has(t, what, d, filled(1), filled(2), filled(3))
		lasts(t, what, d, filled(1), filled(2), filled(3))
	}
}

// down answers a disk that is down, in which that lasts.
func down(t *testing.T, held ...[]byte) *disk.Disk {
	t.Helper()
	d := laid(t, held...)
	d.SetFuse(0)
	answers(t, "Sync behind a fuse of 0", d.Sync(), api.ErrLost)
	return d
}

// P14.1: a disk that is down is ErrLost to all, also to a Mend of a steady mark, and nothing is changed.
func TestDown(t *testing.T) {
	a, b := counted(1, 64), counted(90, 64)
	for _, held := range [][][]byte{{a, a, a}, {a, b, a}} {
		d := down(t, held...)
		refuses(t, "down", d, 0, api.ErrLost)
		if !d.Down() {
			t.Error("a disk that was down is up")
		}
		lasts(t, "down", d, held...)
	}
}

// P14.1, R2: the order of the errors: no disk, or too many bytes, ahead of the disk's errors; that it is down ahead of there being no such sector.
func TestOrderOfErrors(t *testing.T) {
	a, long := counted(1, 64), make([]byte, 65)
	for _, at := range []int{math.MinInt, -1, 0, 1, 2, 3, math.MaxInt} {
		answers(t, "too much into a disk that is up", Save(laid(t, a, a, a), at, long), api.ErrArg)
		answers(t, "too much into one that is down", Save(down(t, a, a, a), at, long), api.ErrArg)
		answers(t, "too much into one without sectors", Save(newDisk(t, 0), at, long), api.ErrArg)
		answers(t, "too much into none", Save(nil, at, long), api.ErrArg)
		refuses(t, "down", down(t, a, a, a), at, api.ErrLost)
		refuses(t, "down, without sectors", down(t), at, api.ErrLost)
	}
}

// P14.1: two marks side by side do not hang on one another.
func TestBeside(t *testing.T) {
	a, b, c := counted(1, 64), counted(90, 64), counted(150, 20)
	d := laid(t, a, b, a, b, a, b)
	answers(t, "Mend of the second", Mend(d, 3), api.OK)
	has(t, "the second mended", d, a, b, a, b, b, b)
	answers(t, "Mend of the first", Mend(d, 0), api.OK)
	has(t, "both mended", d, a, a, a, b, b, b)
	answers(t, "Save of the first", Save(d, 0, c), api.OK)
	loads(t, "the first saved", d, 0, padded(c))
	loads(t, "the first saved", d, 3, b)
	answers(t, "Save of the second", Save(d, 3, a), api.OK)
	loads(t, "both saved", d, 0, padded(c))
	loads(t, "both saved", d, 3, a)
	lasts(t, "both saved", d, padded(c), padded(c), padded(c), a, a, a)
}

// P14.1: marks whose sectors overlap are read as they stand.
func TestOverlap(t *testing.T) {
	a, b := counted(1, 64), counted(90, 64)
	d := newDisk(t, 5)
	answers(t, "Save(0)", Save(d, 0, a), api.OK)
	answers(t, "Save(2)", Save(d, 2, b), api.OK)
	has(t, "overlapped", d, a, a, b, b, b)
	loads(t, "overlapped", d, 0, a)
	loads(t, "overlapped", d, 1, b)
	answers(t, "Mend(1)", Mend(d, 1), api.OK)
	has(t, "overlapped and mended", d, a, b, b, b, b)
	loads(t, "overlapped and mended", d, 0, b)
}

// P14.1: what was written to other sectors, and not synced, stays, and lasts by the mark's own syncs.
func TestOthersWritten(t *testing.T) {
	a, b, c := counted(1, 64), counted(90, 64), counted(150, 64)
	d := laid(t, a, a, a, a, a)
	answers(t, "Write", d.Write(0, b), api.OK)
	answers(t, "Write", d.Write(4, b), api.OK)
	answers(t, "Save", Save(d, 1, c), api.OK)
	has(t, "others written", d, b, c, c, c, b)
	lasts(t, "others written", d, b, c, c, c, b)

	answers(t, "Write", d.Write(0, a), api.OK)
	answers(t, "Mend of a steady mark", Mend(d, 1), api.OK)
	loads(t, "others written", d, 1, c)
	lasts(t, "a steady mark, which syncs nothing", d, b, c, c, c, b)
}

// P14.1: Load sees what was written to the three sectors and not synced, as the disk reads it.
func TestCacheRead(t *testing.T) {
	a, b := counted(1, 64), counted(90, 64)
	d := laid(t, a, a, a)
	answers(t, "Write", d.Write(0, b), api.OK)
	loads(t, "the first written", d, 0, a)
	answers(t, "Write", d.Write(2, b), api.OK)
	loads(t, "the first and the third written", d, 0, b)
	answers(t, "Write", d.Write(1, b), api.OK)
	loads(t, "all written", d, 0, b)
	lasts(t, "all written", d, a, a, a)
	loads(t, "all gone", d, 0, a)
}

// R5: bytes that are handed in stay as they are, their spare room too, and what is done to them later is nothing to the disk.
func TestBytesHandedIn(t *testing.T) {
	for _, n := range []int{0, 1, 10, 64} {
		whole := counted(7, 200)
		b := whole[:n]
		d := numbered(t, 3)
		want := padded(b)
		answers(t, "Save", Save(d, 0, b), api.OK)
		if !bytes.Equal(whole, counted(7, 200)) {
			t.Errorf("%d bytes handed in were changed", n)
		}
		for i := range whole {
			whole[i] = 200
		}
		has(t, "bytes changed behind the call", d, want, want, want)
		lasts(t, "bytes changed behind the call", d, want, want, want)
	}
	long := counted(7, 200)
	answers(t, "Save of too much", Save(numbered(t, 3), 0, long[:65]), api.ErrArg)
	if !bytes.Equal(long, counted(7, 200)) {
		t.Error("bytes that were refused were changed")
	}
}

// R5: what is loaded is new memory: nothing that is done to it is seen by the disk, or by another Load.
func TestBytesAnswered(t *testing.T) {
	a, b := counted(1, 64), counted(90, 64)
	for _, held := range [][][]byte{{a, a, a}, {b, a, a}, {a, b, a}} {
		d := laid(t, held...)
		first, _ := Load(d, 0)
		second, _ := Load(d, 0)
		for i := range first {
			first[i] = 200
		}
		first = append(first, 200)
		if !bytes.Equal(second, a) {
			t.Errorf("two Loads share memory: %x", second)
		}
		has(t, "bytes changed behind a Load", d, held...)
		loads(t, "bytes changed behind a Load", d, 0, a)
	}
}

// R7: two disks' marks do not hang on one another.
func TestTwoDisks(t *testing.T) {
	one, other := newDisk(t, 3), newDisk(t, 3)
	answers(t, "Save", Save(one, 0, []byte{1}), api.OK)
	loads(t, "the other", other, 0, filled(0))
	answers(t, "Save", Save(other, 0, []byte{2}), api.OK)
	loads(t, "the one", one, 0, padded([]byte{1}))
	loads(t, "the other", other, 0, padded([]byte{2}))
}
