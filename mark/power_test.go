package mark

import (
	"bytes"
	"fmt"
	"testing"

	"chronicle/api"
	"chronicle/disk"
)

// This file takes the power at each Write and each Sync.

// pair is what a mark has, and what is saved into it.
type pair struct {
	what     string
	old, new []byte
}

// pairs answers values that differ in all bytes, in the first one, in the last one, in one between, by a longer beginning, and not at all.
func pairs() []pair {
	a := counted(1, 64)
	with := func(i int) []byte {
		b := bytes.Clone(a)
		b[i] ^= 255
		return b
	}
	return []pair{
		{"all bytes differ", a, counted(129, 64)},
		{"the first byte differs", a, with(0)},
		{"the last byte differs", a, with(63)},
		{"a byte between differs", a, with(31)},
		{"from noughts", filled(0), padded(counted(1, 40))},
		{"to noughts", padded(counted(1, 40)), filled(0)},
		{"the same", a, a},
	}
}

// fates answers the crashes behind which one sector that was written may be: kept, not kept, and torn at every place.
func fates() []disk.Fate {
	list := []disk.Fate{noFate, {}, {Keep: []bool{true, true, true}, Torn: -1}, {Keep: []bool{false, true, true}, Torn: 1, At: 32}}
	for at := range 65 {
		list = append(list, disk.Fate{At: at}, disk.Fate{Keep: []bool{true}, At: at})
	}
	return list
}

// torn answers the first at bytes of new, and old ones behind them.
func torn(old, new []byte, at int) []byte {
	return append(bytes.Clone(new[:at]), old[at:]...)
}

// isOneOf answers the mark's value, and holds it to be one of the two.
func isOneOf(t *testing.T, what string, d *disk.Disk, at int, p pair) []byte {
	t.Helper()
	v, e := Load(d, at)
	if e != api.OK || !bytes.Equal(v, p.old) && !bytes.Equal(v, p.new) {
		t.Errorf("%s: the value is %x, %d", what, v, e)
	}
	return v
}

// isSteady holds the three sectors to those bytes, and Mend to write nothing.
func isSteady(t *testing.T, what string, d *disk.Disk, at int, want []byte) {
	t.Helper()
	for i := at; i < at+3; i++ {
		if got, e := d.Read(i); e != api.OK || !bytes.Equal(got, want) {
			t.Errorf("%s: the sector %d: %x, %d, want %x", what, i, got, e, want)
		}
	}
	d.SetFuse(0)
	answers(t, what+": Mend of a steady mark", Mend(d, at), api.OK)
	d.SetFuse(-1)
}

// P14.1: by a fuse of n, which of the three a Save has written, which of them last, what it answers, and that six operations are all that it does.
func TestSaveByFuse(t *testing.T) {
	a, b := counted(1, 64), counted(129, 64)
	for fuse, want := range []struct {
		kept, lost [3][]byte
		e          api.Errno
	}{
		{[3][]byte{a, a, a}, [3][]byte{a, a, a}, api.ErrLost},
		{[3][]byte{b, a, a}, [3][]byte{a, a, a}, api.ErrLost},
		{[3][]byte{b, a, a}, [3][]byte{b, a, a}, api.ErrLost},
		{[3][]byte{b, b, a}, [3][]byte{b, a, a}, api.ErrLost},
		{[3][]byte{b, b, a}, [3][]byte{b, b, a}, api.ErrLost},
		{[3][]byte{b, b, b}, [3][]byte{b, b, a}, api.ErrLost},
		{[3][]byte{b, b, b}, [3][]byte{b, b, b}, api.OK},
		{[3][]byte{b, b, b}, [3][]byte{b, b, b}, api.OK},
	} {
		for _, keeps := range []bool{false, true} {
			what := fmt.Sprintf("a fuse of %d, kept %v", fuse, keeps)
			d := laid(t, filled(7), a, a, a, filled(8))
			d.SetFuse(fuse)
			answers(t, what, Save(d, 1, b), want.e)
			if d.Down() != (want.e != api.OK) {
				t.Errorf("%s: Down is %v", what, d.Down())
			}
			held := want.lost
			if keeps {
				held = want.kept
			}
			d.Crash(disk.Fate{Keep: []bool{keeps}, Torn: -1})
			has(t, what, d, filled(7), held[0], held[1], held[2], filled(8))
		}
	}
}

// P14.1: the sector in which the power goes is torn, and only that one: just one is ever written and not synced.
func TestSaveTorn(t *testing.T) {
	a, b := counted(1, 64), counted(129, 64)
	for which := range 3 {
		for at := range 65 {
			d := laid(t, a, a, a)
			d.SetFuse(2*which + 1)
			answers(t, "Save", Save(d, 0, b), api.ErrLost)
			d.Crash(disk.Fate{Keep: []bool{false, true, true}, At: at})
			held := [][]byte{a, a, a}
			for i := range which {
				held[i] = b
			}
			held[which] = torn(a, b, at)
			has(t, fmt.Sprintf("the sector %d torn at %d", which, at), d, held...)
		}
	}
}

// P14.1: by a fuse of n, which of those that haven't the value a Mend has written, from the first one on; those that have it are not written.
func TestMendByFuse(t *testing.T) {
	a, b, c := counted(1, 64), counted(129, 64), counted(70, 64)
	type state [3][]byte
	for _, m := range []struct {
		what  string
		steps []state // what lasts behind each sector that is written, from none on
	}{
		{"steady", []state{{a, a, a}}},
		{"the first", []state{{b, a, a}, {a, a, a}}},
		{"the second", []state{{a, b, a}, {a, a, a}}},
		{"the third", []state{{a, a, b}, {a, a, a}}},
		{"the last two", []state{{a, b, c}, {a, a, c}, {a, a, a}}},
	} {
		for fuse := range 2*len(m.steps) + 2 {
			for _, keeps := range []bool{false, true} {
				what := fmt.Sprintf("%s, a fuse of %d, kept %v", m.what, fuse, keeps)
				first := m.steps[0]
				d := laid(t, filled(7), first[0], first[1], first[2], filled(8))
				d.SetFuse(fuse)
				want, last := api.ErrLost, len(m.steps)-1
				if fuse >= 2*last {
					want = api.OK
				}
				answers(t, what, Mend(d, 1), want)
				if d.Down() != (want != api.OK) {
					t.Errorf("%s: Down is %v", what, d.Down())
				}
				d.Crash(disk.Fate{Keep: []bool{keeps}, Torn: -1})
				done := fuse / 2
				if keeps {
					done = (fuse + 1) / 2
				}
				held := m.steps[min(done, last)]
				has(t, what, d, filled(7), held[0], held[1], held[2], filled(8))
			}
		}
	}
}

// P14.2: where the power goes within a Save, whatever the crash keeps or tears, the value is the old one, or the new one; behind one that is OK it is the new one, and steady. A Mend behind it keeps the value, and makes it steady.
func TestPowerInSave(t *testing.T) {
	for _, p := range pairs() {
		for fuse := range 9 {
			for _, f := range fates() {
				what := fmt.Sprintf("%s, a fuse of %d, %v", p.what, fuse, f)
				d := laid(t, p.old, p.old, p.old, filled(8))
				d.SetFuse(fuse)
				e := Save(d, 0, p.new)
				d.Crash(f)
				v := isOneOf(t, what, d, 0, p)
				if e == api.OK {
					isSteady(t, what, d, 0, p.new)
				}
				if (e == api.OK) != (fuse >= 6) || fuse < 1 && !bytes.Equal(v, p.old) {
					t.Errorf("%s: %d, %x", what, e, v)
				}
				answers(t, what+": Mend", Mend(d, 0), api.OK)
				isSteady(t, what, d, 0, v)
				d.Crash(f)
				isSteady(t, what+", behind a crash", d, 0, v)
			}
		}
	}
}

// P14.2: where the power goes within Mends, twice, at every operation and every place of a sector, the value is the old one, or the new one; behind one that is OK it is steady.
func TestPowerInMends(t *testing.T) {
	p := pairs()[0]
	places := []int{0, 1, 32, 63, 64}
	for fuse := range 7 {
		for _, saveAt := range places {
			for run := range 4 * 65 * 4 * len(places) {
				firstFuse, firstAt, secondFuse := run%4, run/4%65, run/(4*65)%4
				secondAt := places[run/(4*65*4)]
				d := laid(t, p.old, p.old, p.old)
				d.SetFuse(fuse)
				Save(d, 0, p.new)
				d.Crash(disk.Fate{At: saveAt})
				what := fmt.Sprint(fuse, saveAt, run)
				v := isOneOf(t, what, d, 0, p)
				v = mendOnce(t, what, d, p, v, firstFuse, firstAt)
				v = mendOnce(t, what, d, p, v, secondFuse, secondAt)
				answers(t, what+": the last Mend", Mend(d, 0), api.OK)
				isSteady(t, what, d, 0, v)
			}
		}
	}
}

// mendOnce mends with a fuse, crashes, and answers the value behind it.
func mendOnce(t *testing.T, what string, d *disk.Disk, p pair, was []byte, fuse, at int) []byte {
	t.Helper()
	d.SetFuse(fuse)
	e := Mend(d, 0)
	d.Crash(disk.Fate{At: at})
	v := isOneOf(t, what, d, 0, p)
	if e == api.OK {
		isSteady(t, what, d, 0, was)
	}
	return v
}

// P14.2: Saves and Mends that are broken off again and again, of many values: behind each crash the value is one of those two; behind a Mend that is OK a new Save may begin.
func TestPowerAgainAndAgain(t *testing.T) {
	r := newRand()
	for range 400 {
		p := pair{old: filled(0)}
		d := newDisk(t, 5)
		for range 20 {
			p.new = nearTo(r, p.old)
			d.SetFuse(r.IntN(8))
			e := Save(d, 1, p.new)
			d.Crash(anyFate(r))
			v := isOneOf(t, "a Save", d, 1, p)
			if e == api.OK {
				isSteady(t, "a Save that is OK", d, 1, p.new)
			}
			for range r.IntN(5) {
				d.SetFuse(r.IntN(5))
				e = Mend(d, 1)
				d.Crash(anyFate(r))
				v = isOneOf(t, "a Mend", d, 1, p)
				if e == api.OK {
					isSteady(t, "a Mend that is OK", d, 1, v)
				}
			}
			answers(t, "the last Mend", Mend(d, 1), api.OK)
			isSteady(t, "the last Mend", d, 1, v)
			p.old = v
		}
	}
}

// P14.2: the power that goes within the Save, or the Mend, of one mark is nothing to the mark beside it.
func TestPowerBeside(t *testing.T) {
	p, beside := pairs()[0], counted(60, 64)
	for fuse := range 7 {
		for _, f := range fates() {
			what := fmt.Sprintf("a fuse of %d, %v", fuse, f)
			d := laid(t, beside, beside, beside, p.old, p.old, p.old, beside, beside, beside)
			d.SetFuse(fuse)
			Save(d, 3, p.new)
			d.Crash(f)
			isSteady(t, what, d, 0, beside)
			isSteady(t, what, d, 6, beside)
			d.SetFuse(fuse)
			Mend(d, 3)
			d.Crash(f)
			isSteady(t, what, d, 0, beside)
			isSteady(t, what, d, 6, beside)
			isOneOf(t, what, d, 3, p)
		}
	}
}
