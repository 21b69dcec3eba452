package disk

import (
	"bytes"
	"fmt"
	"math"
	"slices"
	"testing"

	"chronicle/api"
)

// noFate is a fate by which nothing that was written is left.
var noFate = Fate{Torn: -1}

// filled answers a sector's bytes, all of them b.
func filled(b byte) []byte { return bytes.Repeat([]byte{b}, 64) }

// counted answers a sector's bytes that count up from b.
func counted(b byte) []byte {
	list := make([]byte, 64)
	for i := range list {
		list[i] = b + byte(i)
	}
	return list
}

func newDisk(t *testing.T, n int) *Disk {
	t.Helper()
	d, e := New(n)
	if e != api.OK || d == nil {
		t.Fatalf("New(%d): %v, %d", n, d, e)
	}
	return d
}

// has holds the sector to those bytes.
func has(t *testing.T, what string, d *Disk, i int, want []byte) {
	t.Helper()
	if got, e := d.Read(i); e != api.OK || !bytes.Equal(got, want) {
		t.Errorf("%s: Read(%d): %x, %d, want %x", what, i, got, e, want)
	}
}

// answers holds an error to the one that is wanted.
func answers(t *testing.T, what string, got, want api.Errno) {
	t.Helper()
	if got != want {
		t.Errorf("%s: %d, want %d", what, got, want)
	}
}

// isLost holds the disk to be down, or a nil one: it answers ErrLost to all, whatever else is wrong.
func isLost(t *testing.T, what string, d *Disk) {
	t.Helper()
	if !d.Down() {
		t.Errorf("%s: it is up", what)
	}
	for _, i := range []int{math.MinInt, -1, 0, 1, d.Size() - 1, d.Size(), math.MaxInt} {
		b, e := d.Read(i)
		if e != api.ErrLost || len(b) != 0 {
			t.Errorf("%s: Read(%d): %x, %d", what, i, b, e)
		}
		for _, n := range []int{0, 63, 64, 65} {
			answers(t, fmt.Sprintf("%s: Write(%d) of %d bytes", what, i, n), d.Write(i, make([]byte, n)), api.ErrLost)
		}
		answers(t, fmt.Sprintf("%s: Write(%d) of nil", what, i), d.Write(i, nil), api.ErrLost)
	}
	answers(t, what+": Sync", d.Sync(), api.ErrLost)
}

// P13.1: New has so many sectors of noughts, is up and without a fuse.
func TestNew(t *testing.T) {
	for _, n := range []int{0, 1, 2, 3, 8, 4095, 4096} {
		d := newDisk(t, n)
		if d.Size() != n || d.Down() {
			t.Errorf("New(%d): Size %d, Down %v", n, d.Size(), d.Down())
		}
		for i := range n {
			has(t, fmt.Sprintf("New(%d)", n), d, i, make([]byte, 64))
		}
		for range 10000 {
			answers(t, fmt.Sprintf("New(%d): Sync", n), d.Sync(), api.OK)
		}
		if d.Down() {
			t.Errorf("New(%d) has a fuse", n)
		}
	}
}

// P13.1: New of below 0, or above MaxSectors, is ErrArg, and no disk (R3).
func TestNewRefused(t *testing.T) {
	for _, n := range []int{math.MinInt, -4096, -2, -1, 4097, 4098, 8192, 1 << 32, math.MaxInt} {
		if d, e := New(n); d != nil || e != api.ErrArg {
			t.Errorf("New(%d): %v, %d", n, d, e)
		}
	}
}

// P13.1: Read and Write are of the sectors that there are, and ErrRange of others, whatever is written; those change nothing (R4).
func TestRange(t *testing.T) {
	for _, n := range []int{0, 1, 2, 3, 4096} {
		d := newDisk(t, n)
		for _, i := range []int{math.MinInt, -4096, -2, -1, n, n + 1, 4097, 1 << 32, math.MaxInt} {
			what := fmt.Sprintf("the sector %d of %d", i, n)
			b, e := d.Read(i)
			answers(t, what+": Read", e, api.ErrRange)
			if len(b) != 0 {
				t.Errorf("%s: Read: %x", what, b)
			}
			for _, b := range [][]byte{nil, {}, {1}, filled(1)[:63], filled(1), append(filled(1), 1)} {
				answers(t, fmt.Sprintf("%s: Write of %d bytes", what, len(b)), d.Write(i, b), api.ErrRange)
			}
		}
		for i := range n {
			has(t, "refused", d, i, make([]byte, 64))
		}
	}
}

// P13.1: what is written is read, ahead of a sync and behind it, and nothing else is written.
func TestWrite(t *testing.T) {
	for _, n := range []int{1, 2, 3, 4096} {
		for _, i := range []int{0, n / 2, n - 1} {
			d := newDisk(t, n)
			what := fmt.Sprintf("the sector %d of %d", i, n)
			for b := range byte(3) {
				answers(t, what+": Write", d.Write(i, counted(b)), api.OK)
				has(t, what+", written", d, i, counted(b))
				answers(t, what+": Sync", d.Sync(), api.OK)
				has(t, what+", synced", d, i, counted(b))
			}
			for other := range n {
				if other != i {
					has(t, what+": another", d, other, make([]byte, 64))
				}
			}
		}
	}
}

// P13.1: Write of other than Sector bytes is ErrArg, and writes nothing, also not into what a crash goes through (R4).
func TestWriteLengths(t *testing.T) {
	d := newDisk(t, 2)
	d.Write(0, filled(1))
	d.Sync()
	for n := range 200 {
		if n == 64 {
			continue
		}
		for i := range 2 {
			answers(t, fmt.Sprintf("Write(%d) of %d bytes", i, n), d.Write(i, make([]byte, n)), api.ErrArg)
		}
	}
	answers(t, "Write of nil", d.Write(0, nil), api.ErrArg)
	answers(t, "Write of a part of 64 bytes", d.Write(0, filled(9)[:63]), api.ErrArg)
	has(t, "refused", d, 0, filled(1))
	has(t, "refused", d, 1, make([]byte, 64))
	d.Write(1, filled(2))
	d.Crash(Fate{Keep: []bool{true}, Torn: -1})
	has(t, "crashed", d, 0, filled(1))
	has(t, "crashed", d, 1, filled(2))
}

// P13.1: Sync makes all last that was written, in each sector.
func TestSync(t *testing.T) {
	d := newDisk(t, 5)
	for _, i := range []int{4, 0, 2} {
		d.Write(i, counted(byte(i)))
	}
	answers(t, "Sync", d.Sync(), api.OK)
	d.Crash(noFate)
	for _, i := range []int{4, 0, 2} {
		has(t, "synced, crashed", d, i, counted(byte(i)))
	}
	for _, i := range []int{1, 3} {
		has(t, "never written", d, i, make([]byte, 64))
	}
}

// P13.1: Sync with nothing written is done and changes nothing, but is an operation.
func TestSyncOfNothing(t *testing.T) {
	for _, n := range []int{0, 1, 3} {
		d := newDisk(t, n)
		for i := range n {
			d.Write(i, counted(byte(i)))
		}
		for range 3 {
			answers(t, "Sync", d.Sync(), api.OK)
		}
		d.SetFuse(2)
		answers(t, "the first Sync", d.Sync(), api.OK)
		answers(t, "the second Sync", d.Sync(), api.OK)
		answers(t, "the third Sync", d.Sync(), api.ErrLost)
		isLost(t, "a fuse of 2", d)
		d.Crash(noFate)
		for i := range n {
			has(t, "synced again", d, i, counted(byte(i)))
		}
	}
}

// P13.1: the example of the chapter.
func TestExample(t *testing.T) {
	d := newDisk(t, 1)
	answers(t, "Write", d.Write(0, filled(1)), api.OK)
	d.Crash(Fate{})
	has(t, "a crash of no fate", d, 0, make([]byte, 64))
}

// operation does a Write, or a Sync, of which none is refused by its own errors.
func operation(d *Disk, kind int) api.Errno {
	if kind%2 == 0 {
		return d.Write(0, filled(byte(kind)))
	}
	return d.Sync()
}

// P13.1: with a fuse of n, n operations are done, of either kind; ahead of the next one the disk is up, at it and behind it down.
func TestFuse(t *testing.T) {
	for _, kinds := range [][]int{{0}, {1}, {0, 1}, {1, 0}, {0, 0, 1}} {
		for _, n := range []int{0, 1, 2, 3, 10, 100} {
			d := newDisk(t, 1)
			what := fmt.Sprintf("the operations %v, a fuse of %d", kinds, n)
			d.SetFuse(n)
			for i := range n {
				answers(t, fmt.Sprintf("%s: the operation %d", what, i), operation(d, kinds[i%len(kinds)]), api.OK)
				if d.Down() {
					t.Errorf("%s: it is down behind the operation %d", what, i)
				}
			}
			if _, e := d.Read(0); e != api.OK || d.Down() {
				t.Errorf("%s: it is down ahead of the operation that isn't done", what)
			}
			answers(t, what+": the next one", operation(d, kinds[n%len(kinds)]), api.ErrLost)
			isLost(t, what, d)
			if d.Size() != 1 {
				t.Errorf("%s: Size %d", what, d.Size())
			}
		}
	}
}

// P13.1: the greatest fuse, and none, don't burn down.
func TestNoFuse(t *testing.T) {
	for _, n := range []int{math.MaxInt, math.MaxInt - 1, -1, -2, math.MinInt} {
		d := newDisk(t, 1)
		d.SetFuse(n)
		for i := range 1000 {
			answers(t, fmt.Sprintf("a fuse of %d: the operation %d", n, i), operation(d, i), api.OK)
		}
		if d.Down() {
			t.Errorf("a fuse of %d: it is down", n)
		}
	}
}

// refused does to the disk all that is refused by a call's own errors, or is no operation, and holds it to the errors.
func refused(t *testing.T, d *Disk) {
	t.Helper()
	for _, i := range []int{math.MinInt, -1, d.Size(), math.MaxInt} {
		answers(t, fmt.Sprintf("Write(%d)", i), d.Write(i, filled(1)), api.ErrRange)
		answers(t, fmt.Sprintf("Write(%d) of nil", i), d.Write(i, nil), api.ErrRange)
		_, e := d.Read(i)
		answers(t, fmt.Sprintf("Read(%d)", i), e, api.ErrRange)
	}
	for _, b := range [][]byte{nil, {}, filled(1)[:63], append(filled(1), 1)} {
		answers(t, fmt.Sprintf("Write of %d bytes", len(b)), d.Write(0, b), api.ErrArg)
	}
	if _, e := d.Read(0); e != api.OK || d.Size() < 1 || d.Down() {
		t.Error("it is down")
	}
}

// P13.1: a call that is refused by one of its own errors is no operation and burns no fuse, not even one of 0; neither are other calls.
func TestRefusedBurnsNoFuse(t *testing.T) {
	for n := range 5 {
		d := newDisk(t, 2)
		d.SetFuse(n)
		for i := range n {
			refused(t, d)
			answers(t, fmt.Sprintf("a fuse of %d: the operation %d", n, i), operation(d, i), api.OK)
		}
		refused(t, d)
		answers(t, fmt.Sprintf("a fuse of %d: the next one", n), operation(d, n), api.ErrLost)
		isLost(t, fmt.Sprintf("a fuse of %d", n), d)
	}
}

// P13.1: a fuse that is set anew while one burns counts from there on, whether it is longer, shorter or none.
func TestFuseAnew(t *testing.T) {
	for first := range 6 {
		for burnt := range first + 1 {
			for _, second := range []int{-1, 0, 1, 2, 5, 9} {
				d := newDisk(t, 1)
				what := fmt.Sprintf("a fuse of %d, %d burnt, one of %d", first, burnt, second)
				d.SetFuse(first)
				for i := range burnt {
					answers(t, what, operation(d, i), api.OK)
				}
				d.SetFuse(second)
				if d.Down() {
					t.Errorf("%s: it is down", what)
				}
				done := 0
				for done < 20 && operation(d, done) == api.OK {
					done++
				}
				want := second
				if second < 0 {
					want = 20
				}
				if done != want {
					t.Errorf("%s: %d operations were done", what, done)
				}
				if d.Down() != (second >= 0) {
					t.Errorf("%s: Down %v", what, d.Down())
				}
			}
		}
	}
}

// P13.1: a fuse that is set on a disk that is down doesn't bring it up, and there is none behind the crash.
func TestFuseOfDown(t *testing.T) {
	for _, n := range []int{math.MinInt, -1, 0, 1, 2, 100} {
		d := newDisk(t, 1)
		d.SetFuse(0)
		answers(t, "Sync", d.Sync(), api.ErrLost)
		d.SetFuse(n)
		isLost(t, fmt.Sprintf("down, a fuse of %d", n), d)
		d.Crash(noFate)
		noFuse(t, fmt.Sprintf("down, a fuse of %d, a crash", n), d)
	}
}

// noFuse holds the disk to be up and without a fuse.
func noFuse(t *testing.T, what string, d *Disk) {
	t.Helper()
	if d.Down() {
		t.Errorf("%s: it is down", what)
	}
	for i := range 300 {
		answers(t, fmt.Sprintf("%s: the operation %d", what, i), operation(d, i), api.OK)
	}
}

// P13.1: behind a crash there is no fuse, whether it burnt or not; one that is set then burns.
func TestNoFuseBehindACrash(t *testing.T) {
	for n := range 4 {
		for done := range n + 2 {
			d := newDisk(t, 1)
			what := fmt.Sprintf("a fuse of %d, %d operations, a crash", n, done)
			d.SetFuse(n)
			for i := range done {
				operation(d, i)
			}
			if d.Down() != (done > n) {
				t.Errorf("%s: Down %v ahead of it", what, d.Down())
			}
			d.Crash(Fate{Keep: []bool{true}})
			noFuse(t, what, d)
			d.SetFuse(1)
			answers(t, what+", a fuse of 1", operation(d, 0), api.OK)
			answers(t, what+", a fuse of 1, again", operation(d, 0), api.ErrLost)
		}
	}
}

// P13.1: the Write that isn't done any more, of whichever sector, has written nothing, and is none of those that a crash goes through.
func TestWriteNotDone(t *testing.T) {
	for _, keep := range [][]bool{nil, {true}, {true, true}, {true, true, true}} {
		for next := range 3 {
			d := laid(t, 3)
			d.SetFuse(1)
			answers(t, "the write that is done", d.Write(1, filled(50)), api.OK)
			answers(t, "the next one", d.Write(next, filled(51)), api.ErrLost)
			for i := range 3 {
				answers(t, "one behind it", d.Write(i, filled(52)), api.ErrLost)
			}
			d.Crash(Fate{Keep: keep, Torn: -1})
			want := byte(2)
			if len(keep) > 0 {
				want = 50
			}
			what := fmt.Sprintf("Keep %v, the write that isn't done: of %d", keep, next)
			has(t, what, d, 0, filled(1))
			has(t, what, d, 1, filled(want))
			has(t, what, d, 2, filled(3))
		}
	}
}

// P13.1: behind the Sync that isn't done any more, what was written doesn't last yet: the crash's fate says.
func TestSyncNotDone(t *testing.T) {
	for _, keep := range []bool{false, true} {
		d := newDisk(t, 1)
		d.Write(0, filled(1))
		d.Sync()
		d.SetFuse(1)
		d.Write(0, filled(2))
		answers(t, "Sync", d.Sync(), api.ErrLost)
		d.Crash(Fate{Keep: []bool{keep}, Torn: -1})
		want := byte(1)
		if keep {
			want = 2
		}
		has(t, fmt.Sprintf("Keep %v", keep), d, 0, filled(want))
	}
}

// P13.1: the order in which the errors are told: a disk that is down, no such sector, not Sector bytes.
func TestOrderOfErrors(t *testing.T) {
	d := newDisk(t, 1)
	answers(t, "no such sector, not Sector bytes", d.Write(1, nil), api.ErrRange)
	answers(t, "not Sector bytes", d.Write(0, nil), api.ErrArg)
	d.SetFuse(0)
	answers(t, "no such sector, at the end of the fuse", d.Write(1, nil), api.ErrRange)
	answers(t, "not Sector bytes, at the end of the fuse", d.Write(0, nil), api.ErrArg)
	answers(t, "at the end of the fuse", d.Write(0, filled(1)), api.ErrLost)
	isLost(t, "down", d)
	empty := newDisk(t, 0)
	empty.SetFuse(0)
	answers(t, "no sectors", empty.Write(0, filled(1)), api.ErrRange)
	answers(t, "no sectors: Sync", empty.Sync(), api.ErrLost)
	isLost(t, "no sectors, down", empty)
}

// P13.1: a nil *Disk has no sectors and is down; SetFuse and Crash do nothing (R1).
func TestNilDisk(t *testing.T) {
	var d *Disk
	for range 2 {
		if d.Size() != 0 {
			t.Errorf("Size %d", d.Size())
		}
		isLost(t, "nil", d)
		for _, n := range []int{-1, 0, 1} {
			d.SetFuse(n)
		}
		for _, f := range []Fate{{}, noFate, {Keep: []bool{true, false}, Torn: 1, At: 5}} {
			d.Crash(f)
		}
	}
}

// R1: no call panics on a disk that New didn't make: it is one of no sectors.
func TestDiskOfNothing(t *testing.T) {
	var d Disk
	if d.Size() != 0 || d.Down() {
		t.Errorf("Size %d, Down %v", d.Size(), d.Down())
	}
	_, e := d.Read(0)
	answers(t, "Read", e, api.ErrRange)
	answers(t, "Write", d.Write(0, filled(1)), api.ErrRange)
	answers(t, "Sync", d.Sync(), api.OK)
	d.Crash(Fate{Keep: []bool{true}})
	d.SetFuse(0)
	answers(t, "Sync behind a fuse", d.Sync(), api.ErrLost)
	isLost(t, "down", &d)
}

// R5: what is written is left as it is, its spare room too, and isn't kept: what is done to it behind the call is nothing to the disk.
func TestWrittenIsNotKept(t *testing.T) {
	d := newDisk(t, 2)
	room := append(filled(1), filled(7)...)
	kept := slices.Clone(room)
	d.Write(0, room[:64])
	d.Write(1, room[:64])
	d.Sync()
	d.Write(1, room[:64])
	d.Write(0, room[:63])
	d.Crash(Fate{Keep: []bool{true}, Torn: 0, At: 3})
	d.Write(1, room[:64])
	if !bytes.Equal(room, kept) {
		t.Errorf("what was written became %x", room)
	}
	for i := range room {
		room[i] = 9
	}
	has(t, "synced", d, 0, filled(1))
	has(t, "written", d, 1, filled(1))
	d.Sync()
	has(t, "synced behind it", d, 1, filled(1))
	d.Write(0, room[:64])
	room[5] = 8
	d.Crash(Fate{Keep: []bool{true}, Torn: -1})
	has(t, "crashed", d, 0, filled(9))
}

// R5: what is read is new memory: what is done to it, or behind it in its spare room, is nothing to the disk, nor to another answer.
func TestReadIsNew(t *testing.T) {
	d := newDisk(t, 3)
	for i := range 3 {
		d.Write(i, filled(byte(i)))
		if i == 1 {
			d.Sync()
		}
	}
	for round := range 2 {
		for i := range 3 {
			first, _ := d.Read(i)
			second, _ := d.Read(i)
			for j := range first[:cap(first)] {
				first[:cap(first)][j] = 99
			}
			if !bytes.Equal(second, filled(byte(i))) {
				t.Errorf("two answers of Read(%d) share memory", i)
			}
			for other := range 3 {
				has(t, fmt.Sprintf("round %d, behind the change of %d", round, i), d, other, filled(byte(other)))
			}
		}
		d.Crash(Fate{Keep: []bool{true}, Torn: -1})
	}
}

// R5: what was read stays as it was, whatever the disk does.
func TestReadStays(t *testing.T) {
	d := newDisk(t, 1)
	d.Write(0, filled(1))
	written, _ := d.Read(0)
	d.Sync()
	lasting, _ := d.Read(0)
	d.Write(0, filled(2))
	d.Crash(Fate{Keep: []bool{true}, Torn: 0, At: 32})
	d.Write(0, filled(3))
	d.Sync()
	if !bytes.Equal(written, filled(1)) || !bytes.Equal(lasting, filled(1)) {
		t.Errorf("what was read became %x and %x", written, lasting)
	}
}

// R5: a fate's list is left as it is, its spare room too, and isn't kept.
func TestFateIsNotKept(t *testing.T) {
	d := newDisk(t, 3)
	room := []bool{true, false, true, false, true}
	kept := slices.Clone(room)
	f := Fate{Keep: room[:2], Torn: 1, At: 70}
	for i := range 3 {
		d.Write(i, filled(1))
	}
	d.Crash(f)
	if !slices.Equal(room, kept) || f.Torn != 1 || f.At != 70 || len(f.Keep) != 2 {
		t.Errorf("the fate became %v of %v", f, room)
	}
	has(t, "behind Keep", d, 2, make([]byte, 64))
	for i := range room {
		room[i] = true
	}
	d.Write(2, filled(2))
	d.Crash(noFate)
	has(t, "the next crash", d, 2, make([]byte, 64))
}

// R7: two disks don't hang on one another.
func TestTwoDisks(t *testing.T) {
	one, other := newDisk(t, 2), newDisk(t, 2)
	one.Write(0, filled(1))
	one.Sync()
	one.Write(1, filled(2))
	other.SetFuse(0)
	answers(t, "the one's Sync", one.Sync(), api.OK)
	for i := range 2 {
		has(t, "the other", other, i, make([]byte, 64))
	}
	other.Crash(noFate)
	one.SetFuse(0)
	answers(t, "the one's Sync", one.Sync(), api.ErrLost)
	noFuse(t, "the other", other)
	other.Crash(noFate)
	isLost(t, "the one", one)
}
