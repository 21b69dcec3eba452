package disk

import (
	"fmt"
	"math"
	"slices"
	"testing"

	"chronicle/api"
)

// laid answers a disk of n sectors, in which lasts: the sector i is filled with i + 1.
func laid(t *testing.T, n int) *Disk {
	t.Helper()
	d := newDisk(t, n)
	for i := range n {
		answers(t, "Write", d.Write(i, filled(byte(i+1))), api.OK)
	}
	answers(t, "Sync", d.Sync(), api.OK)
	return d
}

// torn answers at bytes of new, and old ones behind them.
func torn(at int, old, new byte) []byte {
	return append(filled(new)[:at:at], filled(old)[at:]...)
}

// P13.1: what Keep says of three sectors that were written among six: none, all, some; fewer and more values than were written.
func TestKeep(t *testing.T) {
	for _, c := range []struct {
		keep []bool
		want [3]bool
	}{
		{nil, [3]bool{}},
		{[]bool{}, [3]bool{}},
		{[]bool{false}, [3]bool{}},
		{[]bool{true}, [3]bool{true, false, false}},
		{[]bool{false, true}, [3]bool{false, true, false}},
		{[]bool{true, true}, [3]bool{true, true, false}},
		{[]bool{false, false, false}, [3]bool{}},
		{[]bool{true, true, true}, [3]bool{true, true, true}},
		{[]bool{true, false, true}, [3]bool{true, false, true}},
		{[]bool{false, false, true}, [3]bool{false, false, true}},
		{[]bool{false, false, false, true, true, true, true}, [3]bool{}},
		{[]bool{true, true, true, false, false, false, false}, [3]bool{true, true, true}},
		{slices.Repeat([]bool{true}, 5000), [3]bool{true, true, true}},
		{slices.Repeat([]bool{false}, 5000), [3]bool{}},
	} {
		for _, torn := range []int{math.MinInt, -1, 3, 4, math.MaxInt} {
			d := laid(t, 6)
			written := [3]int{0, 3, 5}
			for _, place := range []int{2, 0, 1} {
				d.Write(written[place], filled(byte(100+written[place])))
			}
			d.Crash(Fate{Keep: c.keep, Torn: torn, At: 7})
			for i := range 6 {
				want := byte(i + 1)
				if place := slices.Index(written[:], i); place >= 0 && c.want[place] {
					want = byte(100 + i)
				}
				has(t, fmt.Sprintf("Keep of %d: %.7v, Torn %d", len(c.keep), c.keep, torn), d, i, filled(want))
			}
		}
	}
}

// P13.1: the written ones are counted rising by number, not by when they were written, nor by when first or last.
func TestRising(t *testing.T) {
	for _, order := range [][]int{{1, 2, 3}, {3, 2, 1}, {2, 3, 1}, {3, 1, 2}, {3, 1, 2, 3, 1}, {1, 3, 2, 2, 2, 1}} {
		for place, kept := range []int{1, 2, 3} {
			d := laid(t, 5)
			for _, i := range order {
				d.Write(i, filled(byte(100+i)))
			}
			keep := make([]bool, 3)
			keep[place] = true
			d.Crash(Fate{Keep: keep, Torn: -1})
			for i := range 5 {
				want := byte(i + 1)
				if i == kept {
					want = byte(100 + i)
				}
				has(t, fmt.Sprintf("written as %v, Keep %v", order, keep), d, i, filled(want))
			}
		}
	}
}

// P13.1: a torn sector has the first bytes of what was written, whatever Keep says of it; At counts modulo Sector + 1, and nothing below 0.
func TestTornAt(t *testing.T) {
	const past = math.MaxInt % 65
	for _, c := range []struct{ at, want int }{
		{math.MinInt, 0}, {math.MinInt + 1, 0}, {-66, 0}, {-65, 0}, {-64, 0}, {-1, 0},
		{0, 0}, {1, 1}, {2, 2}, {31, 31}, {63, 63}, {64, 64},
		{65, 0}, {66, 1}, {67, 2}, {128, 63}, {129, 64}, {130, 0}, {131, 1},
		{65000, 0}, {65064, 64}, {65 << 40, 0}, {65<<40 + 33, 33}, {1<<32 + 1, 62},
		{math.MaxInt, past}, {math.MaxInt - past, 0}, {math.MaxInt - past - 1, 64},
	} {
		for _, keep := range [][]bool{nil, {true}, {false}, {true, true}, {false, true}, {true, false}, {true, true, true}} {
			for place := range 2 {
				d := laid(t, 4)
				d.Write(1, filled(101))
				d.Write(3, filled(103))
				d.Crash(Fate{Keep: keep, Torn: place, At: c.at})
				what := fmt.Sprintf("Keep %v, Torn %d, At %d", keep, place, c.at)
				for j, i := range []int{1, 3} {
					want := filled(byte(i + 1))
					if len(keep) > j && keep[j] {
						want = filled(byte(100 + i))
					}
					if j == place {
						want = torn(c.want, byte(i+1), byte(100+i))
					}
					has(t, what, d, i, want)
				}
				has(t, what, d, 0, filled(1))
				has(t, what, d, 2, filled(3))
			}
		}
	}
}

// P13.1: of a sector that was written more than once between two syncs a crash keeps, or tears, what was written last; it counts once.
func TestWrittenMoreThanOnce(t *testing.T) {
	write := func() *Disk {
		d := laid(t, 3)
		for _, b := range []byte{50, 51, 52} {
			d.Write(1, filled(b))
			has(t, "written", d, 1, filled(b))
		}
		d.Write(2, filled(60))
		return d
	}
	d := write()
	d.Crash(Fate{Keep: []bool{true, false}, Torn: -1})
	has(t, "kept", d, 1, filled(52))
	has(t, "kept", d, 2, filled(3))
	d = write()
	d.Crash(Fate{Keep: []bool{false, true}, Torn: -1})
	has(t, "not kept", d, 1, filled(2))
	has(t, "not kept", d, 2, filled(60))
	d = write()
	d.Crash(Fate{Keep: []bool{true}, Torn: 0, At: 20})
	has(t, "torn", d, 1, torn(20, 2, 52))
	has(t, "torn", d, 2, filled(3))
	d = write()
	d.Sync()
	d.Crash(noFate)
	has(t, "synced", d, 1, filled(52))
}

// P13.1: a sector into which what lasted was written again is one that was written, and has a place.
func TestWrittenTheSame(t *testing.T) {
	d := laid(t, 3)
	d.Write(0, filled(1))
	d.Write(1, filled(50))
	d.Crash(Fate{Keep: []bool{true, false}, Torn: -1})
	has(t, "the first is kept", d, 1, filled(2))
	d.Write(0, filled(9))
	d.Write(0, filled(1))
	d.Write(1, filled(50))
	d.Crash(Fate{Keep: []bool{false, true}, Torn: 0, At: 9})
	has(t, "the second is kept", d, 0, filled(1))
	has(t, "the second is kept", d, 1, filled(50))
}

// P13.1: a sync ends what was written: a crash counts from there on.
func TestSinceTheLastSync(t *testing.T) {
	d := laid(t, 4)
	d.Write(0, filled(50))
	d.Write(1, filled(51))
	d.Sync()
	d.Write(2, filled(52))
	d.Write(1, filled(61))
	d.Crash(Fate{Keep: []bool{false, true}, Torn: -1})
	for i, want := range []byte{50, 51, 52, 4} {
		has(t, "behind a sync", d, i, filled(want))
	}
}

// P13.1: so does a crash: what it left lasts, what it didn't is gone, and none of it was written since.
func TestCrashesOneBehindTheOther(t *testing.T) {
	all := Fate{Keep: []bool{true, true, true, true}, Torn: -1}
	d := laid(t, 4)
	for i := range 3 {
		d.Write(i, filled(byte(50+i)))
	}
	d.Crash(Fate{Keep: []bool{true, true, false}, Torn: 1, At: 10})
	for _, f := range []Fate{all, noFate, {Keep: all.Keep, Torn: 0, At: 64}, {Torn: 2, At: 33}, {}} {
		d.Crash(f)
		has(t, "kept by the first crash", d, 0, filled(50))
		has(t, "torn by the first crash", d, 1, torn(10, 2, 51))
		has(t, "lost by the first crash", d, 2, filled(3))
		has(t, "never written since", d, 3, filled(4))
	}
	d.Write(1, filled(70))
	d.Write(3, filled(71))
	d.Crash(Fate{Keep: []bool{false, true}, Torn: 0, At: 5})
	has(t, "torn twice", d, 1, append(filled(70)[:5], torn(10, 2, 51)[5:]...))
	has(t, "behind the second crash", d, 0, filled(50))
	has(t, "kept by the second crash", d, 3, filled(71))
	answers(t, "Sync", d.Sync(), api.OK)
	has(t, "a sync brings nothing back", d, 2, filled(3))
}

// P13.1, P13.2: a crash with nothing written changes nothing, whatever its fate.
func TestCrashOfNothing(t *testing.T) {
	fresh, empty, d := newDisk(t, 1), newDisk(t, 0), laid(t, 3)
	for _, keep := range allKeeps(4) {
		for torn := -1; torn < 4; torn++ {
			f := Fate{Keep: keep, Torn: torn, At: 30}
			empty.Crash(f)
			fresh.Crash(f)
			d.Crash(f)
			has(t, fmt.Sprint(f), fresh, 0, make([]byte, 64))
			for i := range 3 {
				has(t, fmt.Sprint(f), d, i, filled(byte(i+1)))
			}
			if empty.Size() != 0 || fresh.Size() != 1 || d.Size() != 3 || empty.Down() || fresh.Down() || d.Down() {
				t.Errorf("%v: a disk has another size, or is down", f)
			}
		}
	}
}

// P13.1: behind a crash, whether the disk was down or not, it is up, and what is done then is done.
func TestUpBehindACrash(t *testing.T) {
	for n := -1; n < 3; n++ {
		d := laid(t, 2)
		d.SetFuse(n)
		for range 3 {
			d.Write(0, filled(50))
		}
		if d.Down() != (n >= 0) {
			t.Errorf("a fuse of %d: Down %v", n, d.Down())
		}
		d.Crash(noFate)
		if d.Down() || d.Size() != 2 {
			t.Errorf("a fuse of %d, a crash: Down %v, Size %d", n, d.Down(), d.Size())
		}
		has(t, "behind the crash", d, 0, filled(1))
		answers(t, "Write", d.Write(0, filled(60)), api.OK)
		answers(t, "Sync", d.Sync(), api.OK)
		d.Crash(noFate)
		has(t, "written and synced", d, 0, filled(60))
	}
}

// P13.2: what lasts is there behind every crash, if it wasn't written since: wherever the power goes, and whatever the fates are.
func TestWhatLasts(t *testing.T) {
	r := newRand()
	for run := range 500 {
		d, since := newDisk(t, 6), [6]bool{}
		lasting := [6][]byte{}
		for i := range lasting {
			lasting[i] = make([]byte, 64)
		}
		written := lasting
		for range 60 {
			switch kind := r.IntN(10); {
			case kind < 5:
				i, b := r.IntN(6), counted(byte(r.IntN(256)))
				if d.Write(i, b) == api.OK {
					since[i], written[i] = true, b
				}
			case kind < 7:
				if d.Sync() == api.OK {
					lasting, since = written, [6]bool{}
				}
			case kind < 8:
				d.SetFuse(r.IntN(6) - 1)
			default:
				d.Crash(someFate(r, 6))
				for i := range lasting {
					if !since[i] {
						has(t, fmt.Sprintf("the run %d", run), d, i, lasting[i])
					}
					lasting[i], _ = d.Read(i)
				}
				written, since = lasting, [6]bool{}
			}
		}
	}
}

// P13.2: so it is behind each crash of each fate, of those that stand ahead of, between and behind the ones written.
func TestNeighboursLast(t *testing.T) {
	for _, keep := range allKeeps(3) {
		for place := -1; place < 4; place++ {
			for _, at := range []int{-1, 0, 1, 63, 64, 65, 66} {
				d := laid(t, 5)
				d.Write(1, filled(50))
				d.Write(3, filled(51))
				d.Crash(Fate{Keep: keep, Torn: place, At: at})
				for _, i := range []int{0, 2, 4} {
					has(t, fmt.Sprintf("Keep %v, Torn %d, At %d", keep, place, at), d, i, filled(byte(i+1)))
				}
			}
		}
	}
}
