package mark

import (
	"fmt"
	"math/rand/v2"
	"slices"
	"strings"
	"testing"

	"chronicle/api"
	"chronicle/disk"
)

// This file holds the marks to the chapter's words, done once more as plainly as they stand: the steps of a call are told as a list, and done by hand on a second disk.

func newRand() *rand.Rand { return rand.New(rand.NewPCG(14, 41)) }

// step is a sector that is written, with a sync behind it.
type step struct {
	sector int
	text   string
}

// told answers what the three sectors have.
func told(d *disk.Disk, at int) (first, second, third string, e api.Errno) {
	texts := [3]string{}
	for i := range texts {
		b, e := d.Read(at + i)
		if e != api.OK {
			return "", "", "", e
		}
		texts[i] = string(b)
	}
	return texts[0], texts[1], texts[2], api.OK
}

func plainLoad(d *disk.Disk, at int) (string, api.Errno) {
	if d == nil {
		return "", api.ErrArg
	}
	first, second, third, e := told(d, at)
	if e != api.OK {
		return "", e
	}
	if second == third {
		return third, api.OK
	}
	return first, api.OK
}

func plainSave(d *disk.Disk, at int, text string) ([]step, api.Errno) {
	if d == nil || len(text) > 64 {
		return nil, api.ErrArg
	}
	if _, _, _, e := told(d, at); e != api.OK {
		return nil, e
	}
	text += strings.Repeat("\x00", 64-len(text))
	return []step{{at, text}, {at + 1, text}, {at + 2, text}}, api.OK
}

func plainMend(d *disk.Disk, at int) ([]step, api.Errno) {
	text, e := plainLoad(d, at)
	if e != api.OK {
		return nil, e
	}
	steps := []step{}
	first, second, third, _ := told(d, at)
	for i, has := range []string{first, second, third} {
		if has != text {
			steps = append(steps, step{at + i, text})
		}
	}
	return steps, api.OK
}

// done does the steps on the disk, as far as its power goes.
func done(d *disk.Disk, steps []step, e api.Errno) api.Errno {
	for _, s := range steps {
		if d.Write(s.sector, []byte(s.text)) != api.OK || d.Sync() != api.OK {
			return api.ErrLost
		}
	}
	return e
}

// nearTo answers a sector's bytes that have the same as those in many places, so that torn ones may be like whole ones.
func nearTo(r *rand.Rand, b []byte) []byte {
	b = slices.Clone(b)
	for range r.IntN(5) {
		b[r.IntN(64)] = byte(r.IntN(3))
	}
	return b
}

func anyFate(r *rand.Rand) disk.Fate {
	f := disk.Fate{Torn: r.IntN(6) - 1, At: r.IntN(70) - 2}
	for range r.IntN(6) {
		f.Keep = append(f.Keep, r.IntN(2) == 0)
	}
	return f
}

// same holds two disks to each other: what their sectors have, and whether they are down.
func same(t *testing.T, what string, d, twin *disk.Disk) {
	t.Helper()
	if d.Down() != twin.Down() {
		t.Fatalf("%s: Down is %v, want %v", what, d.Down(), twin.Down())
	}
	for i := range d.Size() {
		got, e := d.Read(i)
		want, wantE := twin.Read(i)
		if e != wantE || string(got) != string(want) {
			t.Fatalf("%s: the sector %d: %x, %d, want %x, %d", what, i, got, e, want, wantE)
		}
	}
}

// P14.1: runs of calls without a rule, among writes, syncs, fuses and crashes, on two disks: on one of them by hand.
func TestPlain(t *testing.T) {
	r := newRand()
	for run := range 600 {
		n := r.IntN(9)
		d, twin := newDisk(t, n), newDisk(t, n)
		b := filled(0)
		for call := range 60 {
			at := r.IntN(n+4) - 2
			b = nearTo(r, b)
			kind := r.IntN(10)
			what := fmt.Sprintf("run %d, call %d of the kind %d at %d", run, call, kind, at)
			switch kind {
			case 0, 1:
				got, e := Load(d, at)
				want, wantE := plainLoad(twin, at)
				if e != wantE || string(got) != want {
					t.Fatalf("%s: %x, %d, want %x, %d", what, got, e, want, wantE)
				}
			case 2, 3:
				part := append(b, 9)[:r.IntN(66)]
				steps, e := plainSave(twin, at, string(part))
				answers(t, what, Save(d, at, part), done(twin, steps, e))
			case 4, 5:
				steps, e := plainMend(twin, at)
				answers(t, what, Mend(d, at), done(twin, steps, e))
			case 6:
				answers(t, what, d.Write(at, b), twin.Write(at, b))
			case 7:
				answers(t, what, d.Sync(), twin.Sync())
			case 8:
				fuse := r.IntN(12) - 2
				d.SetFuse(fuse)
				twin.SetFuse(fuse)
			case 9:
				f := anyFate(r)
				d.Crash(f)
				twin.Crash(f)
			}
			same(t, what, d, twin)
		}
	}
}
