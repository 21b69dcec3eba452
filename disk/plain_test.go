package disk

import (
	"bytes"
	"fmt"
	"math"
	"math/rand/v2"
	"strings"
	"testing"

	"chronicle/api"
)

// This file holds the disk to the chapter's words, done once more as plainly as they stand: by a list of all that was written since, and by texts.

// wrote is one write that was done.
type wrote struct {
	number int
	text   string
}

// plainDisk is a disk by the chapter's words.
type plainDisk struct {
	lasts []string
	since []wrote
	fuse  int // below 0: none
	down  bool
}

func newRand() *rand.Rand { return rand.New(rand.NewPCG(13, 38)) }

func newPlain(n int) *plainDisk {
	p := &plainDisk{fuse: -1}
	for range n {
		p.lasts = append(p.lasts, strings.Repeat("\x00", 64))
	}
	return p
}

// last answers what was written last into the sector since the last sync or crash, and whether anything was.
func (p *plainDisk) last(number int) (text string, found bool) {
	for _, w := range p.since {
		if w.number == number {
			text, found = w.text, true
		}
	}
	return text, found
}

func (p *plainDisk) read(number int) (string, api.Errno) {
	if p.down {
		return "", api.ErrLost
	}
	if number < 0 || number > len(p.lasts)-1 {
		return "", api.ErrRange
	}
	if text, found := p.last(number); found {
		return text, api.OK
	}
	return p.lasts[number], api.OK
}

// isDone answers whether an operation is done.
func (p *plainDisk) isDone() bool {
	if p.fuse == 0 {
		p.down = true
	}
	if p.fuse > 0 {
		p.fuse--
	}
	return !p.down
}

func (p *plainDisk) write(number int, text string) api.Errno {
	if p.down {
		return api.ErrLost
	}
	if number < 0 || number > len(p.lasts)-1 {
		return api.ErrRange
	}
	if len(text) != 64 {
		return api.ErrArg
	}
	if !p.isDone() {
		return api.ErrLost
	}
	p.since = append(p.since, wrote{number, text})
	return api.OK
}

func (p *plainDisk) sync() api.Errno {
	if p.down || !p.isDone() {
		return api.ErrLost
	}
	for _, w := range p.since {
		p.lasts[w.number] = w.text
	}
	p.since = nil
	return api.OK
}

func (p *plainDisk) crash(f Fate) {
	place := 0
	for number, old := range p.lasts {
		text, found := p.last(number)
		if !found {
			continue
		}
		has := old
		if place < len(f.Keep) && f.Keep[place] {
			has = text
		}
		if place == f.Torn {
			at := 0
			if f.At > 0 {
				at = f.At - f.At/65*65
			}
			has = text[:at] + old[at:]
		}
		p.lasts[number] = has
		place++
	}
	*p = plainDisk{lasts: p.lasts, fuse: -1}
}

// pair is a disk and its plain one, to which the same is done.
type pair struct {
	disk  *Disk
	plain *plainDisk
}

func newPair(t *testing.T, n int) pair {
	t.Helper()
	return pair{newDisk(t, n), newPlain(n)}
}

// same holds all that the disk tells to what the plain one tells.
func (p pair) same(t *testing.T, what string) {
	t.Helper()
	if p.disk.Size() != len(p.plain.lasts) || p.disk.Down() != p.plain.down {
		t.Fatalf("%s: Size %d, Down %v, want %d, %v", what, p.disk.Size(), p.disk.Down(), len(p.plain.lasts), p.plain.down)
	}
	for i := -1; i <= len(p.plain.lasts); i++ {
		got, e := p.disk.Read(i)
		want, wantE := p.plain.read(i)
		if string(got) != want || e != wantE {
			t.Fatalf("%s: Read(%d): %x, %d, want %x, %d", what, i, got, e, want, wantE)
		}
	}
}

// someText answers 64 bytes, often some that differ from the noughts at one end alone, or, rarely, too many or too few.
func someText(r *rand.Rand) string {
	b := make([]byte, 64)
	switch r.IntN(12) {
	case 0:
		b[0] = byte(r.IntN(256))
	case 1:
		b[63] = byte(r.IntN(256))
	case 2:
		b = b[:r.IntN(64)]
	case 3:
		b = append(b, make([]byte, 1+r.IntN(64))...)
	default:
		for i := range b {
			b[i] = byte(r.IntN(256))
		}
	}
	return string(b)
}

// someFate answers a fate for about so many sectors written.
func someFate(r *rand.Rand, n int) Fate {
	f := Fate{Torn: r.IntN(n+3) - 1, At: r.IntN(200) - 2}
	for range r.IntN(n + 3) {
		f.Keep = append(f.Keep, r.IntN(2) == 0)
	}
	switch r.IntN(10) {
	case 0:
		f.At = math.MaxInt - r.IntN(200)
	case 1:
		f.At = math.MinInt + r.IntN(200)
	case 2:
		f.Torn = []int{math.MinInt, math.MaxInt}[r.IntN(2)]
	}
	return f
}

// step does one thing that follows no rule to both, holds their answers to each other, and answers what was done.
func (p pair) step(t *testing.T, r *rand.Rand) string {
	t.Helper()
	size := len(p.plain.lasts)
	switch kind := r.IntN(20); {
	case kind < 12:
		i, text := r.IntN(size+2)-1, someText(r)
		got, want := p.disk.Write(i, []byte(text)), p.plain.write(i, text)
		if got != want {
			t.Fatalf("Write(%d, %x): %d, want %d", i, text, got, want)
		}
		return fmt.Sprintf("Write(%d, %x)", i, text)
	case kind < 15:
		if got, want := p.disk.Sync(), p.plain.sync(); got != want {
			t.Fatalf("Sync: %d, want %d", got, want)
		}
		return "Sync"
	case kind < 17:
		n := r.IntN(9) - 2
		p.disk.SetFuse(n)
		p.plain.fuse = max(n, -1)
		return fmt.Sprintf("SetFuse(%d)", n)
	}
	f := someFate(r, size)
	p.disk.Crash(f)
	p.plain.crash(f)
	return fmt.Sprintf("Crash(%v)", f)
}

// P13.1: whatever is done, the answers are those of the chapter's words.
func TestByChance(t *testing.T) {
	r := newRand()
	for run := range 400 {
		p, did := newPair(t, r.IntN(7)), "New"
		for i := range 150 {
			p.same(t, fmt.Sprintf("the run %d, at %d, behind %s", run, i, did))
			did = p.step(t, r)
		}
	}
}

// allKeeps answers all lists of at most n bools.
func allKeeps(n int) [][]bool {
	list, from := [][]bool{nil}, 0
	for range n {
		end := len(list)
		for _, keep := range list[from:end] {
			list = append(list, append(keep[:len(keep):len(keep)], false), append(keep[:len(keep):len(keep)], true))
		}
		from = end
	}
	return list
}

// ats answers each At about nought and about the first multiples of Sector + 1, and great ones.
func ats() []int {
	list := []int{math.MinInt, math.MinInt + 1, -130, -66, -65, -64, math.MaxInt - 64, math.MaxInt - 1, math.MaxInt}
	for at := -2; at <= 133; at++ {
		list = append(list, at)
	}
	return list
}

// P13.1: each fate of two sectors that were written among three.
func TestEachFate(t *testing.T) {
	for _, keep := range allKeeps(4) {
		for torn := -2; torn <= 4; torn++ {
			for _, at := range ats() {
				f, p := Fate{keep, torn, at}, newPair(t, 3)
				for i, b := range []byte{3, 4, 5} {
					p.write(t, i, b)
				}
				p.sync(t)
				p.write(t, 2, 6)
				p.write(t, 0, 7)
				p.disk.Crash(f)
				p.plain.crash(f)
				p.same(t, fmt.Sprint(f))
			}
		}
	}
}

// write writes 64 bytes that count up from b.
func (p pair) write(t *testing.T, i int, b byte) {
	t.Helper()
	p.plain.write(i, string(counted(b)))
	if e := p.disk.Write(i, counted(b)); e != api.OK {
		t.Fatalf("Write(%d): %d", i, e)
	}
}

func (p pair) sync(t *testing.T) {
	t.Helper()
	p.plain.sync()
	if e := p.disk.Sync(); e != api.OK {
		t.Fatalf("Sync: %d", e)
	}
}

// P13.1, P2: the greatest disk, each sector of which was written, in an order that follows no rule, has the same answers each time.
func TestGreatest(t *testing.T) {
	r := newRand()
	for range 3 {
		p := newPair(t, api.MaxSectors)
		for range 2 {
			f := Fate{Torn: r.IntN(api.MaxSectors), At: 1 + r.IntN(63)}
			for i, number := range r.Perm(api.MaxSectors) {
				b := bytes.Repeat([]byte{byte(number), byte(number >> 8)}, 32)
				p.plain.lasts[number] = string(b)
				if e := p.disk.Write(number, b); e != api.OK {
					t.Fatal(e)
				}
				f.Keep = append(f.Keep, i%3 == 0)
			}
			p.same(t, "written")
			p.sync(t)
			p.keepEach(t, f)
		}
	}
}

// keepEach writes all sectors anew and crashes; as all are written, each one's place is its number.
func (p pair) keepEach(t *testing.T, f Fate) {
	t.Helper()
	for number := len(p.plain.lasts) - 1; number >= 0; number-- {
		if e := p.disk.Write(number, counted(byte(number))); e != api.OK {
			t.Fatal(e)
		}
		switch {
		case number == f.Torn:
			p.plain.lasts[number] = string(counted(byte(number))[:f.At]) + p.plain.lasts[number][f.At:]
		case f.Keep[number]:
			p.plain.lasts[number] = string(counted(byte(number)))
		}
	}
	p.disk.Crash(f)
	p.same(t, "crashed")
}
