package store

import (
	"bytes"
	"fmt"
	"math"
	"slices"
	"testing"

	"chronicle/api"
	"chronicle/disk"
)

// noFate is a fate by which nothing that was written is left.
var noFate = disk.Fate{Torn: -1}

// allFate is a fate by which all that was written is left.
var allFate = disk.Fate{Keep: slices.Repeat([]bool{true}, 4096), Torn: -1}

// lengths are those at which an entry takes a sector more than a shorter one, those beside them, and the least and the greatest ones.
var lengths = []int{0, 1, 2, 61, 62, 63, 64, 125, 126, 127, 128, 189, 190, 191, 192, 199, 200}

// counted answers n bytes that count up from b, none of them nought.
func counted(b byte, n int) []byte {
	list := make([]byte, n)
	for i := range list {
		list[i] = max(b+byte(i), 1)
	}
	return list
}

// takesByTable answers how many sectors an entry takes, by the lengths at which it is one more.
func takesByTable(n int) int {
	switch {
	case n <= 62:
		return 1
	case n <= 126:
		return 2
	case n <= 190:
		return 3
	}
	return 4
}

func newDisk(t *testing.T, n int) *disk.Disk {
	t.Helper()
	d, e := disk.New(n)
	if e != api.OK {
		t.Fatalf("New(%d): %d", n, e)
	}
	return d
}

func opened(t *testing.T, d *disk.Disk) *Store {
	t.Helper()
	s, e := Open(d)
	if e != api.OK || s == nil {
		t.Fatalf("Open: %v, %d", s, e)
	}
	return s
}

// newStore answers a store on a new disk with so many sectors of room, and the disk.
func newStore(t *testing.T, room int) (*Store, *disk.Disk) {
	t.Helper()
	d := newDisk(t, 3+room)
	return opened(t, d), d
}

// answers holds an error to the one that is wanted.
func answers(t *testing.T, what string, got, want api.Errno) {
	t.Helper()
	if got != want {
		t.Errorf("%s: %d, want %d", what, got, want)
	}
}

// tells holds a store to the entries that are kept, and to how many wait and how many sectors are left.
func tells(t *testing.T, what string, s *Store, kept [][]byte, waits, room int) {
	t.Helper()
	if s.Len() != len(kept) || s.Waits() != waits || s.Room() != room {
		t.Errorf("%s: Len %d, Waits %d, Room %d, want %d, %d, %d", what, s.Len(), s.Waits(), s.Room(), len(kept), waits, room)
	}
	for i, want := range kept {
		if b, ok := s.Entry(i); !ok || !bytes.Equal(b, want) {
			t.Errorf("%s: Entry(%d): %x, %v, want %x", what, i, b, ok, want)
		}
	}
	for _, i := range []int{math.MinInt, -2, -1, len(kept), len(kept) + 1, len(kept) + waits, math.MaxInt} {
		if i >= 0 && i < len(kept) {
			continue
		}
		if b, ok := s.Entry(i); ok || len(b) != 0 {
			t.Errorf("%s: Entry(%d): %x, %v", what, i, b, ok)
		}
	}
}

// finds holds what is opened on the disk to those entries, twice.
func finds(t *testing.T, what string, d *disk.Disk, kept ...[]byte) *Store {
	t.Helper()
	room := d.Size() - 3
	for _, b := range kept {
		room -= takesByTable(len(b))
	}
	tells(t, what+", opened", opened(t, d), kept, 0, room)
	again := opened(t, d)
	tells(t, what+", opened again", again, kept, 0, room)
	return again
}

// held answers what the disk's sectors have, from the sector at on, one behind the other.
func held(t *testing.T, d *disk.Disk, at, count int) []byte {
	t.Helper()
	all := []byte{}
	for i := at; i < at+count; i++ {
		b, e := d.Read(i)
		answers(t, "Read", e, api.OK)
		all = append(all, b...)
	}
	return all
}

// laidOut answers what stands in the sectors of an entry.
func laidOut(b []byte) []byte {
	all := append([]byte{byte(len(b) % 256), byte(len(b) / 256)}, b...)
	return append(all, make([]byte, 64*takesByTable(len(b))-len(all))...)
}

// valueOf answers the mark's value of two numbers.
func valueOf(count, taken int) []byte {
	b := make([]byte, 64)
	b[0], b[1] = byte(count%256), byte(count/256)
	b[8], b[9] = byte(taken%256), byte(taken/256)
	return b
}

// P15.1, P15.3: the chapter's examples.
func TestExamples(t *testing.T) {
	s, d := newStore(t, 5)
	answers(t, "Append", s.Append([]byte("a")), api.OK)
	d.Crash(noFate)
	s = finds(t, "the first example", d)
	answers(t, "Append", s.Append([]byte("a")), api.OK)
	answers(t, "Commit", s.Commit(), api.OK)
	d.Crash(noFate)
	finds(t, "the second example", d, []byte("a"))
}

// P15.1: Open of disks of few sectors: the mark alone takes three.
func TestOpenSizes(t *testing.T) {
	for n := range 3 {
		s, e := Open(newDisk(t, n))
		if s != nil || e != api.ErrRange {
			t.Errorf("Open of %d sectors: %v, %d", n, s, e)
		}
	}
	for _, n := range []int{3, 4, 5, 4096} {
		what := fmt.Sprint(n, " sectors")
		d := newDisk(t, n)
		tells(t, what, opened(t, d), nil, 0, n-3)
		if !bytes.Equal(held(t, d, 0, n), make([]byte, 64*n)) {
			t.Errorf("%s: Open of a new disk wrote", what)
		}
	}
}

// P15.1, R1, R3: Open without a disk, of one without anything set, and of one that is down, also where it has too few sectors.
func TestOpenRefused(t *testing.T) {
	refuses := func(what string, d *disk.Disk, want api.Errno) {
		t.Helper()
		s, e := Open(d)
		if s != nil || e != want {
			t.Errorf("Open of %s: %v, %d, want %d", what, s, e, want)
		}
	}
	refuses("no disk", nil, api.ErrArg)
	refuses("a disk without anything set", &disk.Disk{}, api.ErrRange)
	for _, n := range []int{0, 1, 2, 3, 4, 10} {
		d := newDisk(t, n)
		d.SetFuse(0)
		answers(t, "Sync", d.Sync(), api.ErrLost)
		refuses(fmt.Sprint("a disk that is down, of ", n), d, api.ErrLost)
		if !d.Down() {
			t.Error("Open made a disk go up")
		}
	}
}

// P15.1: a new disk with a fuse of 0 is opened: nothing is written.
func TestOpenBurnsNothing(t *testing.T) {
	d := newDisk(t, 9)
	d.SetFuse(0)
	s := opened(t, d)
	answers(t, "Commit of nothing", s.Commit(), api.OK)
	tells(t, "a fuse of 0", s, nil, 0, 6)
	if d.Down() {
		t.Error("Open, or a Commit of nothing, took the power")
	}
}

// P15.2, R1: a nil *Store.
func TestNil(t *testing.T) {
	var s *Store
	for _, b := range [][]byte{nil, {}, []byte("a"), make([]byte, 200), make([]byte, 201)} {
		answers(t, "Append", s.Append(b), api.ErrLost)
	}
	answers(t, "Commit", s.Commit(), api.ErrLost)
	tells(t, "nil", s, nil, 0, 0)
	if b, ok := s.Entry(0); ok || len(b) != 0 {
		t.Errorf("Entry(0): %x, %v", b, ok)
	}
}

// R1: a store that no Open made panics in no call, and takes nothing.
func TestUnset(t *testing.T) {
	s := &Store{}
	answers(t, "Append", s.Append(nil), api.ErrLost)
	answers(t, "Commit", s.Commit(), api.ErrLost)
	tells(t, "a store without anything set", s, nil, 0, 0)
}

// P15.1, P15.2: an entry of each length: how many sectors it takes, what stands in them, and that it is kept by Commit, and not ahead of it.
func TestLengths(t *testing.T) {
	for n := range 201 {
		what := fmt.Sprint(n, " bytes")
		b, takes := counted(byte(n), n), takesByTable(n)
		s, d := newStore(t, 6)
		for i := 3; i < 9; i++ {
			answers(t, "Write", d.Write(i, bytes.Repeat([]byte{255}, 64)), api.OK)
		}
		answers(t, what, s.Append(b), api.OK)
		tells(t, what+", appended", s, nil, 1, 6-takes)
		if got := held(t, d, 3, takes); !bytes.Equal(got, laidOut(b)) {
			t.Errorf("%s: %x stands there", what, got)
		}
		if got := held(t, d, 3+takes, 6-takes); !bytes.Equal(got, bytes.Repeat([]byte{255}, 64*(6-takes))) {
			t.Errorf("%s: %x stands behind it", what, got)
		}
		if got := held(t, d, 0, 3); !bytes.Equal(got, make([]byte, 192)) {
			t.Errorf("%s: the mark is %x ahead of the Commit", what, got)
		}
		answers(t, what+": Commit", s.Commit(), api.OK)
		tells(t, what+", committed", s, [][]byte{b}, 0, 6-takes)
		if got := held(t, d, 0, 3); !bytes.Equal(got, bytes.Repeat(valueOf(1, takes), 3)) {
			t.Errorf("%s: the mark is %x", what, got)
		}
		d.Crash(noFate)
		finds(t, what, d, b)
		if got := held(t, d, 3, takes); !bytes.Equal(got, laidOut(b)) {
			t.Errorf("%s: %x lasts there", what, got)
		}
	}
}

// P15.1: entries of all lengths one behind the other: each begins behind the one ahead.
func TestOneBehindTheOther(t *testing.T) {
	s, d := newStore(t, 100)
	kept, all, room := [][]byte{}, []byte{}, 100
	for _, ns := range [][]int{lengths, {200, 0, 63, 62, 191}, {1}} {
		for i, n := range ns {
			b := counted(byte(7*n), n)
			answers(t, "Append", s.Append(b), api.OK)
			room -= takesByTable(n)
			tells(t, "appended", s, kept[:len(kept):len(kept)], i+1, room)
			all = append(all, laidOut(b)...)
		}
		for _, n := range ns {
			kept = append(kept, counted(byte(7*n), n))
		}
		answers(t, "Commit", s.Commit(), api.OK)
		tells(t, "committed", s, kept, 0, room)
		d.Crash(noFate)
		finds(t, "committed", d, kept...)
		if got := held(t, d, 3, 100-room); !bytes.Equal(got, all) {
			t.Errorf("%x stands there, want %x", got, all)
		}
		if got := held(t, d, 0, 3); !bytes.Equal(got, bytes.Repeat(valueOf(len(kept), 100-room), 3)) {
			t.Errorf("the mark is %x", got)
		}
	}
}

// P15.1, R4: an entry of more than MaxEntry bytes is ErrLong, and changes nothing; what comes behind it goes on.
func TestTooLong(t *testing.T) {
	s, d := newStore(t, 10)
	answers(t, "Append", s.Append([]byte("a")), api.OK)
	ahead := held(t, d, 0, 13)
	d.SetFuse(0)
	for _, n := range []int{201, 202, 254, 255, 256, 257, 65535, 65536, 65537, 65736, 1 << 20} {
		answers(t, fmt.Sprint(n, " bytes"), s.Append(make([]byte, n)), api.ErrLong)
	}
	tells(t, "refused", s, nil, 1, 9)
	if d.Down() || !bytes.Equal(held(t, d, 0, 13), ahead) {
		t.Error("what is too long was written")
	}
	d.SetFuse(-1)
	answers(t, "Append", s.Append(counted(3, 200)), api.OK)
	answers(t, "Commit", s.Commit(), api.OK)
	tells(t, "gone on", s, [][]byte{[]byte("a"), counted(3, 200)}, 0, 5)
	answers(t, "too long behind a Commit", s.Append(make([]byte, 201)), api.ErrLong)
	tells(t, "refused again", s, [][]byte{[]byte("a"), counted(3, 200)}, 0, 5)
	d.Crash(noFate)
	finds(t, "gone on", d, []byte("a"), counted(3, 200))
}

// P15.1, R4: where the room is one sector too little, or none, Append is ErrFull, and changes nothing; where it is just enough, b waits; a smaller one still goes.
func TestFull(t *testing.T) {
	for _, n := range lengths {
		takes := takesByTable(n)
		for room := range 5 {
			what := fmt.Sprintf("%d bytes, a room of %d", n, room)
			s, d := newStore(t, room)
			if room >= takes {
				answers(t, what, s.Append(counted(9, n)), api.OK)
				tells(t, what, s, nil, 1, room-takes)
				answers(t, what, s.Commit(), api.OK)
				tells(t, what, s, [][]byte{counted(9, n)}, 0, room-takes)
				d.Crash(noFate)
				finds(t, what, d, counted(9, n))
				continue
			}
			d.SetFuse(0)
			answers(t, what, s.Append(counted(9, n)), api.ErrFull)
			tells(t, what, s, nil, 0, room)
			if d.Down() || !bytes.Equal(held(t, d, 0, 3+room), make([]byte, 64*(3+room))) {
				t.Errorf("%s: what has no room was written", what)
			}
			d.SetFuse(-1)
			if room > 0 {
				small := counted(5, 64*room-2)
				answers(t, what+": a smaller one", s.Append(small), api.OK)
				answers(t, what+": none behind it", s.Append(nil), api.ErrFull)
				tells(t, what, s, nil, 1, 0)
				answers(t, what+": Commit", s.Commit(), api.OK)
				d.Crash(noFate)
				finds(t, what, d, small)
			}
		}
	}
}

// P15.1, P15.2: what waits takes room, too, and a full store goes on telling, committing and refusing.
func TestFullGoesOn(t *testing.T) {
	s, d := newStore(t, 6)
	kept := [][]byte{counted(1, 63), {}, counted(90, 126)}
	answers(t, "Append", s.Append(kept[0]), api.OK)
	answers(t, "Commit", s.Commit(), api.OK)
	answers(t, "Append", s.Append(kept[1]), api.OK)
	answers(t, "191 bytes", s.Append(counted(1, 191)), api.ErrFull)
	answers(t, "Append", s.Append(kept[2]), api.OK)
	answers(t, "63 bytes", s.Append(counted(1, 63)), api.ErrFull)
	tells(t, "one sector left", s, kept[:1], 2, 1)
	answers(t, "Append", s.Append([]byte("z")), api.OK)
	for _, n := range lengths {
		answers(t, "no sector left", s.Append(make([]byte, n)), api.ErrFull)
	}
	answers(t, "too long for a full store", s.Append(make([]byte, 201)), api.ErrLong)
	answers(t, "Commit", s.Commit(), api.OK)
	kept = append(kept, []byte("z"))
	tells(t, "full", s, kept, 0, 0)
	answers(t, "no sector left", s.Append(nil), api.ErrFull)
	answers(t, "Commit of nothing", s.Commit(), api.OK)
	d.Crash(allFate)
	s = finds(t, "full", d, kept...)
	answers(t, "no sector left", s.Append(nil), api.ErrFull)
	answers(t, "Commit of nothing", s.Commit(), api.OK)
	tells(t, "full", s, kept, 0, 0)
}

// P15.1: the greatest disk, filled by entries of one sector, and by the longest ones: the numbers in the mark have more than one byte.
func TestGreatestDisk(t *testing.T) {
	for _, n := range []int{1, 200} {
		s, d := newStore(t, 4093)
		kept := [][]byte{}
		for s.Room() >= takesByTable(n) {
			b := counted(byte(len(kept)), n)
			answers(t, "Append", s.Append(b), api.OK)
			kept = append(kept, b)
		}
		if want := 4093 / takesByTable(n); len(kept) != want {
			t.Errorf("%d entries of %d bytes, want %d", len(kept), n, want)
		}
		answers(t, "Commit", s.Commit(), api.OK)
		d.Crash(noFate)
		finds(t, fmt.Sprint("entries of ", n), d, kept...)
	}
}

// P15.1, R2: the order of the errors: over, too long, no room, the disk's.
func TestOrderOfErrors(t *testing.T) {
	s, d := newStore(t, 2)
	d.SetFuse(0)
	answers(t, "Sync", d.Sync(), api.ErrLost)
	answers(t, "too long, no room, down", s.Append(make([]byte, 201)), api.ErrLong)
	answers(t, "no room, down", s.Append(make([]byte, 200)), api.ErrFull)
	answers(t, "no room, down", s.Append(make([]byte, 127)), api.ErrFull)
	answers(t, "down", s.Append(make([]byte, 126)), api.ErrLost)
	answers(t, "over, too long, no room, down", s.Append(make([]byte, 201)), api.ErrLost)
	answers(t, "over, no room, down", s.Append(make([]byte, 200)), api.ErrLost)
	answers(t, "over, nothing waits", s.Commit(), api.ErrLost)
	d.Crash(noFate)
	answers(t, "over, too long, no room", s.Append(make([]byte, 201)), api.ErrLost)
	answers(t, "over, no room", s.Append(make([]byte, 200)), api.ErrLost)
	answers(t, "over", s.Append(nil), api.ErrLost)
	answers(t, "over, nothing waits", s.Commit(), api.ErrLost)
	tells(t, "over", s, nil, 0, 2)
	if !bytes.Equal(held(t, d, 0, 5), make([]byte, 320)) {
		t.Error("what was refused was written")
	}
}

// P15.1: errors of the disk come behind a store's own only where a call writes: too long and no room leave a store as it is, also on a disk that is down; it isn't over.
func TestRefusedIsNotOver(t *testing.T) {
	s, d := newStore(t, 2)
	d.SetFuse(0)
	answers(t, "Sync", d.Sync(), api.ErrLost)
	answers(t, "too long", s.Append(make([]byte, 201)), api.ErrLong)
	answers(t, "no room", s.Append(make([]byte, 200)), api.ErrFull)
	answers(t, "Commit of nothing, which asks the disk for nothing", s.Commit(), api.OK)
	d.Crash(noFate)
	answers(t, "Append", s.Append([]byte("a")), api.OK)
	answers(t, "Commit", s.Commit(), api.OK)
	tells(t, "not over", s, [][]byte{[]byte("a")}, 0, 1)
	finds(t, "not over", d, []byte("a"))
}

// P15.1, P15.2: a store that is over, by an Append and by a Commit: what is written is refused, also behind a crash, and the other calls tell what they told.
func TestOver(t *testing.T) {
	for _, byCommit := range []bool{false, true} {
		s, d := newStore(t, 10)
		kept := [][]byte{counted(1, 70), {}}
		for _, b := range kept {
			answers(t, "Append", s.Append(b), api.OK)
		}
		answers(t, "Commit", s.Commit(), api.OK)
		answers(t, "Append", s.Append([]byte("waits")), api.OK)
		d.SetFuse(0)
		if byCommit {
			answers(t, "Commit", s.Commit(), api.ErrLost)
		} else {
			answers(t, "Append", s.Append([]byte("lost")), api.ErrLost)
		}
		for _, up := range []bool{false, true} {
			what := fmt.Sprintf("over by a Commit %v, up %v", byCommit, up)
			if up {
				d.Crash(noFate)
			}
			ahead := []byte{}
			if up {
				ahead = held(t, d, 0, 13)
				d.SetFuse(0)
			}
			for range 2 {
				answers(t, what, s.Append(nil), api.ErrLost)
				answers(t, what, s.Commit(), api.ErrLost)
				tells(t, what, s, kept, 1, 6)
			}
			if up && (d.Down() || !bytes.Equal(held(t, d, 0, 13), ahead)) {
				t.Errorf("%s: it wrote", what)
			}
		}
		d.SetFuse(-1)
		s = finds(t, "over", d, kept...)
		answers(t, "Append", s.Append([]byte("new")), api.OK)
		answers(t, "Commit", s.Commit(), api.OK)
		d.Crash(noFate)
		finds(t, "opened and gone on", d, append(kept, []byte("new"))...)
	}
}

// P15.1: Commit with nothing waiting writes nothing and burns no fuse: on a new store, behind a Commit, and on one that was opened.
func TestCommitOfNothing(t *testing.T) {
	s, d := newStore(t, 5)
	burnsNothing := func(what string, s *Store, kept [][]byte, room int) {
		t.Helper()
		ahead := held(t, d, 0, 8)
		d.SetFuse(0)
		for range 3 {
			answers(t, what, s.Commit(), api.OK)
		}
		if d.Down() || !bytes.Equal(held(t, d, 0, 8), ahead) {
			t.Errorf("%s: it wrote", what)
		}
		d.SetFuse(-1)
		tells(t, what, s, kept, 0, room)
	}
	burnsNothing("a new store", s, nil, 5)
	answers(t, "too long", s.Append(make([]byte, 201)), api.ErrLong)
	burnsNothing("behind one that was too long", s, nil, 5)
	answers(t, "Append", s.Append([]byte("a")), api.OK)
	answers(t, "Commit", s.Commit(), api.OK)
	burnsNothing("behind a Commit", s, [][]byte{[]byte("a")}, 4)
	burnsNothing("opened", opened(t, d), [][]byte{[]byte("a")}, 4)
	finds(t, "behind all", d, []byte("a"))
}

// P15.1: what else was written to the disk, and not synced, isn't synced by a Commit of nothing, nor by Open.
func TestNoSyncOfNothing(t *testing.T) {
	s, d := newStore(t, 5)
	answers(t, "Write", d.Write(7, counted(1, 64)), api.OK)
	answers(t, "Commit of nothing", s.Commit(), api.OK)
	opened(t, d)
	d.Crash(noFate)
	if got := held(t, d, 7, 1); !bytes.Equal(got, make([]byte, 64)) {
		t.Errorf("it was synced: %x", got)
	}
}

// P15.1: what waits isn't synced ahead of the Commit, and isn't there for who opens the disk ahead of it.
func TestWaiting(t *testing.T) {
	s, d := newStore(t, 5)
	answers(t, "Append", s.Append([]byte("a")), api.OK)
	finds(t, "ahead of the Commit", d)
	answers(t, "Commit", s.Commit(), api.OK)
	finds(t, "behind the Commit", d, []byte("a"))
	answers(t, "Append", s.Append([]byte("b")), api.OK)
	finds(t, "ahead of the second Commit", d, []byte("a"))
	d.Crash(noFate)
	if got := held(t, d, 4, 1); !bytes.Equal(got, make([]byte, 64)) {
		t.Errorf("what waited lasts: %x", got)
	}
}

// R5: bytes that are handed in stay as they are, their spare room too, and what is done to them later is nothing to the store, nor to the disk.
func TestBytesHandedIn(t *testing.T) {
	for _, n := range append(slices.Clone(lengths), 201) {
		what := fmt.Sprint(n, " bytes")
		whole := counted(50, 300)
		s, d := newStore(t, 9)
		want := api.OK
		if n > 200 {
			want = api.ErrLong
		}
		answers(t, what, s.Append(whole[:n]), want)
		if !bytes.Equal(whole, counted(50, 300)) {
			t.Errorf("%s: what was handed in was changed", what)
		}
		clear(whole)
		if n > 200 {
			continue
		}
		answers(t, what+": Commit", s.Commit(), api.OK)
		tells(t, what, s, [][]byte{counted(50, n)}, 0, 9-takesByTable(n))
		if !bytes.Equal(whole, make([]byte, 300)) {
			t.Errorf("%s: what was handed in was changed behind the call", what)
		}
		for i := range whole {
			whole[i] = 9
		}
		tells(t, what, s, [][]byte{counted(50, n)}, 0, 9-takesByTable(n))
		finds(t, what, d, counted(50, n))
	}
}

// R5: an entry that is told is new memory: nothing that is done to it, or to its spare room, is seen by the store, by the disk, or by another one that is told.
func TestBytesAnswered(t *testing.T) {
	for _, n := range lengths {
		s, d := newStore(t, 9)
		kept := [][]byte{counted(50, n), counted(90, 10)}
		for _, b := range kept {
			answers(t, "Append", s.Append(b), api.OK)
		}
		answers(t, "Commit", s.Commit(), api.OK)
		room := 8 - takesByTable(n)
		for _, s := range []*Store{s, opened(t, d)} {
			first, _ := s.Entry(0)
			second, _ := s.Entry(0)
			first = first[:cap(first)]
			for i := range first {
				first[i] = 200
			}
			first = append(first, 200)
			if !bytes.Equal(second, kept[0]) {
				t.Errorf("two answers share memory: %x", second)
			}
			tells(t, "an entry changed behind the call", s, kept, 0, room)
			finds(t, "an entry changed behind the call", d, kept...)
		}
	}
}

// R5: an empty list and nil mean the same entry.
func TestEmpty(t *testing.T) {
	s, d := newStore(t, 3)
	for _, b := range [][]byte{nil, {}, make([]byte, 0, 9)} {
		answers(t, "Append", s.Append(b), api.OK)
	}
	answers(t, "Commit", s.Commit(), api.OK)
	tells(t, "empty", s, [][]byte{{}, {}, {}}, 0, 0)
	finds(t, "empty", d, nil, nil, nil)
}

// R7: two stores on two disks do not hang on one another, not even where one of them is over.
func TestTwoStores(t *testing.T) {
	one, first := newStore(t, 4)
	other, second := newStore(t, 5)
	answers(t, "Append", one.Append([]byte("a")), api.OK)
	tells(t, "the other", other, nil, 0, 5)
	answers(t, "Append", other.Append(counted(1, 100)), api.OK)
	answers(t, "Commit", one.Commit(), api.OK)
	tells(t, "the one", one, [][]byte{[]byte("a")}, 0, 3)
	tells(t, "the other", other, nil, 1, 3)
	first.SetFuse(0)
	answers(t, "Append", one.Append(nil), api.ErrLost)
	answers(t, "Commit", other.Commit(), api.OK)
	first.Crash(noFate)
	finds(t, "the one", first, []byte("a"))
	finds(t, "the other", second, counted(1, 100))
}
