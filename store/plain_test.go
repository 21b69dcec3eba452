package store

import (
	"fmt"
	"math/rand/v2"
	"strings"
	"testing"

	"chronicle/api"
	"chronicle/disk"
	"chronicle/mark"
)

// This file holds the store to the chapter's words, done once more as plainly as they stand: entries are lists of texts, and what is written is done by hand on a second disk.

func newRand() *rand.Rand { return rand.New(rand.NewPCG(15, 44)) }

func anyFate(r *rand.Rand) disk.Fate {
	f := disk.Fate{Torn: r.IntN(8) - 1, At: r.IntN(70) - 2}
	for range r.IntN(10) {
		f.Keep = append(f.Keep, r.IntN(2) == 0)
	}
	return f
}

// plain is a store: its entries, of which the first ones are kept.
type plain struct {
	d       *disk.Disk
	entries []string
	kept    int
	over    bool
}

// filled answers the text with noughts behind it, so that it is whole sectors.
func filled(text string) string {
	return text + strings.Repeat("\x00", (64-len(text)%64)%64)
}

// number answers n as a text of so many bytes, the least significant first.
func number(n, size int) string {
	text := ""
	for range size {
		text += string([]byte{byte(n % 256)})
		n /= 256
	}
	return text
}

// places answers where each entry begins, and behind them where the next one would.
func places(entries []string) []int {
	list := []int{3}
	for _, text := range entries {
		list = append(list, list[len(list)-1]+(len(text)+65)/64)
	}
	return list
}

// image answers what stands on a store's disk behind the mark.
func image(entries []string) string {
	all := ""
	for _, text := range entries {
		all += filled(number(len(text), 2) + text)
	}
	return all
}

func plainOpen(d *disk.Disk) (*plain, api.Errno) {
	if d == nil {
		return nil, api.ErrArg
	}
	if e := mark.Mend(d, 0); e != api.OK {
		return nil, e
	}
	value, _ := mark.Load(d, 0)
	disk := ""
	for i := range d.Size() {
		b, _ := d.Read(i)
		disk += string(b)
	}
	// The entries that stand there, one behind the other, till the mark's value is told by just so many of them, or no more stand there.
	entries := []string{}
	for {
		taken := places(entries)[len(entries)] - 3
		if string(value) == filled(number(len(entries), 8)+number(taken, 8)) {
			return &plain{d: d, entries: entries, kept: len(entries)}, api.OK
		}
		rest := disk[64*(3+taken):]
		if rest == "" {
			return nil, api.ErrForm
		}
		n := int(rest[0]) + 256*int(rest[1])
		if n > 200 || len(rest) < 2+n {
			return nil, api.ErrForm
		}
		entries = append(entries, rest[2:2+n])
	}
}

func (p *plain) room() int {
	return p.d.Size() - places(p.entries)[len(p.entries)]
}

// writes writes the entry i by hand.
func (p *plain) writes(i int) api.Errno {
	text := image(p.entries[i : i+1])
	for at := places(p.entries)[i]; text != ""; at, text = at+1, text[64:] {
		if p.d.Write(at, []byte(text[:64])) != api.OK {
			return api.ErrLost
		}
	}
	return api.OK
}

// stands answers whether the entry i is on the disk.
func (p *plain) stands(i int) bool {
	text := ""
	for at := places(p.entries)[i]; at < places(p.entries)[i+1]; at++ {
		b, _ := p.d.Read(at)
		text += string(b)
	}
	return text == image(p.entries[i:i+1])
}

func (p *plain) append(text string) api.Errno {
	switch {
	case p.over:
		return api.ErrLost
	case len(text) > 200:
		return api.ErrLong
	case p.room() < (len(text)+65)/64:
		return api.ErrFull
	}
	p.entries = append(p.entries, text)
	if p.writes(len(p.entries)-1) != api.OK {
		p.entries = p.entries[:len(p.entries)-1]
		p.over = true
		return api.ErrLost
	}
	return api.OK
}

func (p *plain) commit() api.Errno {
	if p.over {
		return api.ErrLost
	}
	if p.kept == len(p.entries) {
		return api.OK
	}
	p.over = true
	for i := p.kept; i < len(p.entries); i++ {
		if !p.stands(i) && p.writes(i) != api.OK {
			return api.ErrLost
		}
	}
	if p.d.Sync() != api.OK {
		return api.ErrLost
	}
	taken := places(p.entries)[len(p.entries)] - 3
	for i := range 3 {
		if p.d.Write(i, []byte(filled(number(len(p.entries), 8)+number(taken, 8)))) != api.OK || p.d.Sync() != api.OK {
			return api.ErrLost
		}
	}
	p.over = false
	p.kept = len(p.entries)
	return api.OK
}

// like holds a store to the plain one, and their disks to each other.
func like(t *testing.T, what string, s *Store, p *plain) {
	t.Helper()
	kept := [][]byte{}
	for _, text := range p.entries[:p.kept] {
		kept = append(kept, []byte(text))
	}
	tells(t, what, s, kept, len(p.entries)-p.kept, p.room())
}

// same holds two disks to each other: what their sectors have, and whether they are down.
func same(t *testing.T, what string, d, twin *disk.Disk) {
	t.Helper()
	if d.Down() != twin.Down() {
		t.Fatalf("%s: Down is %v, want %v", what, d.Down(), twin.Down())
	}
	for i := range d.Size() {
		got, e := d.Read(i)
		want, wantE := twin.Read(i)
		if e != wantE || string(got) != string(want) {
			t.Fatalf("%s: the sector %d: %x, %d, want %x, %d", what, i, got, e, want, wantE)
		}
	}
}

// P15.1, P15.2: runs of calls without a rule, among fuses and crashes, on two disks: on one of them by hand.
func TestPlain(t *testing.T) {
	r := newRand()
	for run := range 400 {
		n := 3 + r.IntN(25)
		d, twin := newDisk(t, n), newDisk(t, n)
		s := opened(t, d)
		p, e := plainOpen(twin)
		answers(t, "the plain one", e, api.OK)
		for call := range 60 {
			kind := r.IntN(12)
			what := fmt.Sprintf("run %d, call %d of the kind %d", run, call, kind)
			switch kind {
			case 0, 1, 2, 3, 4:
				b := make([]byte, []int{0, 1, 5, 62, 63, 100, 190, 191, 200, 201}[r.IntN(10)])
				for i := range b {
					b[i] = byte(r.IntN(3))
				}
				answers(t, what, s.Append(b), p.append(string(b)))
			case 5, 6, 7:
				answers(t, what, s.Commit(), p.commit())
			case 8:
				fuse := r.IntN(30) - 2
				d.SetFuse(fuse)
				twin.SetFuse(fuse)
			case 9:
				f := anyFate(r)
				d.Crash(f)
				twin.Crash(f)
			case 10, 11:
				if d.Down() {
					f := anyFate(r)
					d.Crash(f)
					twin.Crash(f)
				}
				again, e := Open(d)
				plainAgain, wantE := plainOpen(twin)
				answers(t, what, e, wantE)
				if e == api.OK && wantE == api.OK {
					s, p = again, plainAgain
				}
			}
			like(t, what, s, p)
			same(t, what, d, twin)
		}
	}
}

// P15.1: disks of any bytes that are nearly a store's: Open answers as the plain one, which takes the entries as they stand till the mark's value is told.
func TestPlainOpen(t *testing.T) {
	r := newRand()
	found := [12]int{}
	for run := range 20000 {
		n := 3 + r.IntN(12)
		d, twin := newDisk(t, n), newDisk(t, n)
		for i := range n {
			b := make([]byte, 64)
			switch {
			case i < 3:
				b[0], b[8] = byte(r.IntN(4)), byte(r.IntN(8))
			case r.IntN(4) > 0:
				b[0] = byte([]int{0, 1, 62, 63, 126, 127, 190, 191, 200, 201}[r.IntN(10)])
				b[63] = byte(r.IntN(3))
			}
			if r.IntN(40) == 0 {
				b[r.IntN(64)] = 1
			}
			if i == 1 || i == 2 && r.IntN(3) > 0 {
				b, _ = d.Read(i - 1)
			}
			answers(t, "Write", d.Write(i, b), twin.Write(i, b))
		}
		s, e := Open(d)
		p, wantE := plainOpen(twin)
		what := fmt.Sprint("run ", run)
		answers(t, what, e, wantE)
		found[e]++
		same(t, what, d, twin)
		if e == api.OK && wantE == api.OK {
			like(t, what, s, p)
		} else if s != nil {
			t.Errorf("%s: a store beside an error", what)
		}
	}
	if found[api.OK] < 500 || found[api.ErrForm] < 500 {
		t.Errorf("too few of a kind: %v", found)
	}
}
