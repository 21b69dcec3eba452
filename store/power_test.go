package store

import (
	"bytes"
	"fmt"
	"slices"
	"testing"

	"chronicle/api"
	"chronicle/disk"
)

// This file takes the power at each Write and each Sync.

// commitOperations is how many operations a Commit is: a Sync, and a Write and a Sync for each sector of the mark.
const commitOperations = 7

// fates answers crashes that keep all, none, and some of what was written, and that tear each of the first sectors, at some places.
func fates() []disk.Fate {
	list := []disk.Fate{noFate, allFate, {}, {Keep: []bool{true}, Torn: -1}, {Keep: []bool{false, true, false, true}, Torn: -1}}
	for torn := range 5 {
		for _, at := range []int{-1, 0, 1, 2, 8, 9, 32, 63, 64} {
			list = append(list, disk.Fate{Torn: torn, At: at}, disk.Fate{Keep: allFate.Keep, Torn: torn, At: at})
		}
	}
	return list
}

// tornAnywhere answers crashes that tear the first sector that was written, at each of its places.
func tornAnywhere() []disk.Fate {
	list := []disk.Fate{noFate, allFate}
	for at := range 65 {
		list = append(list, disk.Fate{At: at})
	}
	return list
}

// two answers a store in which two entries are kept, and its disk.
func two(t *testing.T, room int) (*Store, *disk.Disk, [][]byte) {
	t.Helper()
	s, d := newStore(t, room)
	kept := [][]byte{counted(1, 70), []byte("b")}
	for _, b := range kept {
		answers(t, "Append", s.Append(b), api.OK)
	}
	answers(t, "Commit", s.Commit(), api.OK)
	return s, d, kept
}

// P15.1, P15.3: the power goes at each operation of an Append: it is a Write for each sector, the first one first, and nothing else; what is kept stays, whatever the crash leaves.
func TestPowerInAppend(t *testing.T) {
	for _, n := range lengths {
		takes := takesByTable(n)
		for fuse := range takes + 2 {
			for _, f := range fates() {
				what := fmt.Sprintf("%d bytes, a fuse of %d, %v and %d at %d", n, fuse, len(f.Keep), f.Torn, f.At)
				s, d, kept := two(t, 9)
				d.SetFuse(fuse)
				want := api.OK
				if fuse < takes {
					want = api.ErrLost
				}
				answers(t, what, s.Append(counted(100, n)), want)
				if want == api.OK {
					tells(t, what, s, kept, 1, 6-takes)
				} else {
					tells(t, what, s, kept, 0, 6)
					answers(t, what+": Append of one that is over", s.Append(nil), api.ErrLost)
					answers(t, what+": Commit of one that is over", s.Commit(), api.ErrLost)
				}
				if d.Down() != (want != api.OK) {
					t.Errorf("%s: down is %v", what, d.Down())
				}
				d.Crash(f)
				if f.Torn == -1 && len(f.Keep) > 9 {
					written := laidOut(counted(100, n))[:64*min(fuse, takes)]
					if got := held(t, d, 6, 6); !bytes.Equal(got, append(written, make([]byte, 384-len(written))...)) {
						t.Errorf("%s: %x was written", what, got)
					}
				}
				finds(t, what, d, kept...)
			}
		}
	}
}

// P15.1: by a fuse of n, what a Commit leaves: the sync of the entries comes first, then the mark, sector by sector.
func TestCommitByFuse(t *testing.T) {
	old, new := valueOf(2, 3), valueOf(4, 8)
	for fuse, want := range []struct {
		lost [3][]byte // what the mark has behind a crash that leaves nothing that wasn't synced
		kept [3][]byte // and behind one that leaves all
	}{
		{[3][]byte{old, old, old}, [3][]byte{old, old, old}},
		{[3][]byte{old, old, old}, [3][]byte{old, old, old}},
		{[3][]byte{old, old, old}, [3][]byte{new, old, old}},
		{[3][]byte{new, old, old}, [3][]byte{new, old, old}},
		{[3][]byte{new, old, old}, [3][]byte{new, new, old}},
		{[3][]byte{new, new, old}, [3][]byte{new, new, old}},
		{[3][]byte{new, new, old}, [3][]byte{new, new, new}},
		{[3][]byte{new, new, new}, [3][]byte{new, new, new}},
		{[3][]byte{new, new, new}, [3][]byte{new, new, new}},
	} {
		for _, keeps := range []bool{false, true} {
			what := fmt.Sprintf("a fuse of %d, kept %v", fuse, keeps)
			s, d, kept := two(t, 9)
			added := [][]byte{counted(100, 200), {}}
			for _, b := range added {
				answers(t, what+": Append", s.Append(b), api.OK)
			}
			d.SetFuse(fuse)
			if fuse < commitOperations {
				answers(t, what, s.Commit(), api.ErrLost)
				tells(t, what, s, kept, 2, 1)
				answers(t, what+": Commit of one that is over", s.Commit(), api.ErrLost)
			} else {
				answers(t, what, s.Commit(), api.OK)
				tells(t, what, s, append(kept, added...), 0, 1)
			}
			if d.Down() != (fuse < commitOperations) {
				t.Errorf("%s: down is %v", what, d.Down())
			}
			f, mark := noFate, want.lost
			if keeps {
				f, mark = allFate, want.kept
			}
			d.Crash(f)
			if got := held(t, d, 0, 3); !bytes.Equal(got, slices.Concat(mark[:]...)) {
				t.Errorf("%s: the mark is %x", what, got)
			}
			entries := make([]byte, 320)
			if fuse > 0 || keeps {
				entries = joined(added...)
			}
			if got := held(t, d, 6, 5); !bytes.Equal(got, entries) {
				t.Errorf("%s: the entries are %x", what, got)
			}
		}
	}
}

// P15.3: the power goes at each operation of a Commit, and what was written is left, lost, and torn at every place: what is kept, or all with what waited, and just that which the mark's value tells.
func TestPowerInCommit(t *testing.T) {
	for _, waiting := range [][][]byte{{[]byte("c")}, {{}}, {counted(100, 200), counted(7, 63), {}}} {
		for fuse := range commitOperations + 2 {
			for _, f := range append(fates(), tornAnywhere()...) {
				what := fmt.Sprintf("%d wait, a fuse of %d, %v and %d at %d", len(waiting), fuse, len(f.Keep), f.Torn, f.At)
				s, d, kept := two(t, 12)
				for _, b := range waiting {
					answers(t, what+": Append", s.Append(b), api.OK)
				}
				d.SetFuse(fuse)
				e := s.Commit()
				if (e == api.OK) != (fuse >= commitOperations) {
					t.Errorf("%s: %d", what, e)
				}
				d.Crash(f)
				all := append(kept, waiting...)
				if fuse > 4 || fuse == 4 && len(opened(t, d).kept) == len(all) {
					kept = all
				}
				s = finds(t, what, d, kept...)
				d.Crash(f)
				finds(t, what+", crashed again", d, kept...)
				answers(t, what+": Append behind it", s.Append([]byte("z")), api.OK)
				answers(t, what+": Commit behind it", s.Commit(), api.OK)
				d.Crash(f)
				finds(t, what+", gone on", d, append(kept, []byte("z"))...)
			}
		}
	}
}

// P15.3: where the power goes ahead of a sector of the mark that makes it count, it is what was kept; behind it, all.
func TestPowerBothSides(t *testing.T) {
	for fuse := range commitOperations {
		for _, f := range []disk.Fate{noFate, allFate} {
			s, d, kept := two(t, 10)
			answers(t, "Append", s.Append([]byte("c")), api.OK)
			d.SetFuse(fuse)
			answers(t, "Commit", s.Commit(), api.ErrLost)
			d.Crash(f)
			if fuse > 4 || fuse == 4 && f.Keep != nil {
				kept = append(kept, []byte("c"))
			}
			finds(t, fmt.Sprintf("a fuse of %d, %d", fuse, len(f.Keep)), d, kept...)
		}
	}
}

// P15.3: the power goes within Open, again and again: what Open finds in the end is what was kept, or that with what waited; what one Open found stays.
func TestPowerInOpen(t *testing.T) {
	places := []int{0, 1, 9, 64}
	for fuse := range commitOperations {
		for run := range 64 * 64 {
			commitAt := places[run%4]
			firstFuse, firstAt := run/4%4, places[run/16%4]
			secondFuse, secondAt := run/64%4, places[run/256%4]
			thirdFuse := run / 1024
			what := fmt.Sprint(fuse, run)
			s, d, kept := two(t, 10)
			answers(t, "Append", s.Append([]byte("c")), api.OK)
			d.SetFuse(fuse)
			answers(t, "Commit", s.Commit(), api.ErrLost)
			d.Crash(disk.Fate{At: commitAt})
			all := append(kept, []byte("c"))
			found := brokenOpen(t, what, d, firstFuse, firstAt, len(all), -1)
			found = brokenOpen(t, what, d, secondFuse, secondAt, len(all), found)
			found = brokenOpen(t, what, d, thirdFuse, firstAt, len(all), found)
			s = opened(t, d)
			if found >= 0 && s.Len() != found {
				t.Fatalf("%s: %d entries, ahead of it %d", what, s.Len(), found)
			}
			finds(t, what, d, all[:max(s.Len(), 2)]...)
		}
	}
}

// brokenOpen opens the disk by a fuse, crashes, and answers how many entries were found, or what was found ahead of it.
func brokenOpen(t *testing.T, what string, d *disk.Disk, fuse, at, most, found int) int {
	t.Helper()
	d.SetFuse(fuse)
	s, e := Open(d)
	switch {
	case e == api.ErrLost && s == nil:
	case e == api.OK && s.Len() <= most && s.Len() >= most-1 && (found < 0 || found == s.Len()):
		found = s.Len()
	default:
		t.Fatalf("%s: Open with a fuse of %d: %v, %d, ahead of it %d", what, fuse, s, e, found)
	}
	d.Crash(disk.Fate{At: at})
	return found
}

// P15.3: by a fuse of n, whether an Open that must mend is done; it is broken off with ErrLost and no store.
func TestOpenByFuse(t *testing.T) {
	a, b := []byte("a"), counted(1, 70)
	one, all, bad := valueOf(1, 1), valueOf(2, 3), valueOf(9, 9)
	for _, m := range []struct {
		what       string
		values     [3][]byte
		operations int
		kept       [][]byte
	}{
		{"steady", [3][]byte{one, one, one}, 0, [][]byte{a}},
		{"the first", [3][]byte{all, one, one}, 2, [][]byte{a}},
		{"the second", [3][]byte{all, bad, all}, 2, [][]byte{a, b}},
		{"the third", [3][]byte{all, all, one}, 2, [][]byte{a, b}},
		{"the last two", [3][]byte{all, bad, one}, 4, [][]byte{a, b}},
	} {
		for fuse := range m.operations + 2 {
			for _, f := range []disk.Fate{noFate, allFate, {At: 9}} {
				what := fmt.Sprintf("%s, a fuse of %d", m.what, fuse)
				d := unsteady(t, m.values[0], m.values[1], m.values[2])
				d.SetFuse(fuse)
				s, e := Open(d)
				if fuse < m.operations {
					if s != nil || e != api.ErrLost || !d.Down() {
						t.Errorf("%s: %v, %d", what, s, e)
					}
				} else if e != api.OK || d.Down() {
					t.Errorf("%s: %d", what, e)
				} else {
					tells(t, what, s, m.kept, 0, 6-[]int{0, 1, 3}[len(m.kept)])
				}
				d.Crash(f)
				finds(t, what, d, m.kept...)
			}
		}
	}
}

// P15.1, P15.3: a crash within no call, behind which the store goes on as if there had been none: what waits is still to be kept by Commit.
func TestGoesOnBehindACrash(t *testing.T) {
	waiting := [][]byte{counted(100, 200), []byte("c"), {}, counted(7, 126)}
	for _, f := range fates() {
		what := fmt.Sprintf("%v and %d at %d", len(f.Keep), f.Torn, f.At)
		s, d, kept := two(t, 20)
		for i, b := range waiting {
			answers(t, what+": Append", s.Append(b), api.OK)
			if i > 0 {
				d.Crash(f)
			}
		}
		tells(t, what, s, kept, 4, 9)
		finds(t, what+", ahead of the Commit", d, kept...)
		answers(t, what+": Commit", s.Commit(), api.OK)
		kept = append(kept, waiting...)
		tells(t, what, s, kept, 0, 9)
		d.Crash(f)
		finds(t, what, d, kept...)
	}
}

// P15.3: Appends, Commits and Opens that are broken off again and again, by any fuse and any fate: what is found is what was kept behind the last Commit that was OK, or that with what waited when the power went within one.
func TestPowerAgainAndAgain(t *testing.T) {
	r := newRand()
	for range 300 {
		d := newDisk(t, 3+r.IntN(40))
		kept := [][]byte{}
		for range 12 {
			s := reopened(t, d, func() { d.SetFuse(r.IntN(6) - 1) }, func() { d.Crash(anyFate(r)) })
			finds(t, "opened", d, kept...)
			d.SetFuse(r.IntN(30) - 3)
			waiting, maybe := [][]byte{}, -1
			for range r.IntN(8) {
				if r.IntN(3) > 0 {
					b := counted(byte(r.IntN(256)), lengths[r.IntN(len(lengths))])
					if s.Append(b) == api.OK {
						waiting = append(waiting, b)
					}
					continue
				}
				wasOver := s.over
				e := s.Commit()
				if e == api.OK {
					kept, waiting = append(kept, waiting...), nil
				} else if !wasOver {
					maybe = len(kept) + len(waiting)
				}
			}
			tells(t, "ahead of a crash", s, kept, len(waiting), s.Room())
			d.Crash(anyFate(r))
			found := opened(t, d).Len()
			if found == maybe {
				kept = append(kept, waiting...)
			}
			finds(t, "behind a crash", d, kept...)
		}
	}
}

// reopened answers the store, behind Opens that may be broken off.
func reopened(t *testing.T, d *disk.Disk, fuse, crash func()) *Store {
	t.Helper()
	for range 3 {
		fuse()
		if _, e := Open(d); e != api.OK && e != api.ErrLost {
			t.Fatalf("Open: %d", e)
		}
		crash()
	}
	return opened(t, d)
}
