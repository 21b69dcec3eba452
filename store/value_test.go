package store

import (
	"bytes"
	"fmt"
	"slices"
	"testing"

	"chronicle/api"
	"chronicle/disk"
)

// This file opens disks that are laid by hand, as they should be and otherwise.

// laidDisk answers a disk of n sectors, in whose first three that value lasts, and behind them those bytes.
func laidDisk(t *testing.T, n int, value []byte, all []byte) *disk.Disk {
	t.Helper()
	d := newDisk(t, n)
	for i := range 3 {
		answers(t, "Write", d.Write(i, value), api.OK)
	}
	for i, part := range slices.Collect(slices.Chunk(all, 64)) {
		answers(t, "Write", d.Write(3+i, part), api.OK)
	}
	answers(t, "Sync", d.Sync(), api.OK)
	return d
}

// joined answers what stands in the sectors of the entries.
func joined(entries ...[]byte) []byte {
	all := []byte{}
	for _, b := range entries {
		all = append(all, laidOut(b)...)
	}
	return all
}

// isErrForm holds Open to ErrForm, to no store beside it, and to have written nothing.
func isErrForm(t *testing.T, what string, d *disk.Disk) {
	t.Helper()
	ahead := held(t, d, 0, d.Size())
	d.SetFuse(0)
	s, e := Open(d)
	if s != nil || e != api.ErrForm {
		t.Errorf("%s: %v, %d", what, s, e)
	}
	if d.Down() || !bytes.Equal(held(t, d, 0, d.Size()), ahead) {
		t.Errorf("%s: Open wrote", what)
	}
}

// P15.1: disks laid by hand as the chapter says are opened: of each length, and of many entries.
func TestLaid(t *testing.T) {
	finds(t, "noughts", laidDisk(t, 3, make([]byte, 64), nil))
	for n := range 201 {
		b := counted(byte(n), n)
		takes := takesByTable(n)
		what := fmt.Sprint(n, " bytes")
		finds(t, what, laidDisk(t, 3+takes, valueOf(1, takes), laidOut(b)), b)
		finds(t, what, laidDisk(t, 9, valueOf(1, takes), laidOut(b)), b)
		two := joined(b, []byte("z"))
		finds(t, what, laidDisk(t, 9, valueOf(2, takes+1), two), b, []byte("z"))
		two = joined([]byte("z"), b)
		finds(t, what, laidDisk(t, 9, valueOf(2, takes+1), two), []byte("z"), b)
	}
}

// P15.1: numbers that are too great, by each of their eight bytes.
func TestNumbersTooGreat(t *testing.T) {
	all := joined([]byte("a"), counted(1, 100))
	for place := range 16 {
		for _, add := range []byte{1, 2, 64, 127, 128, 255} {
			v := valueOf(2, 3)
			v[place] += add
			what := fmt.Sprintf("the byte %d is %d more", place, add)
			isErrForm(t, what, laidDisk(t, 20, v, all))
			v = valueOf(0, 0)
			v[place] = add
			isErrForm(t, what+", of no entry", laidDisk(t, 3, v, nil))
		}
	}
	// Both numbers too great at once, so that neither is told by the other, and sums of them wrap round.
	for place := range 8 {
		for _, add := range []byte{16, 128, 255} {
			v := valueOf(2, 3)
			v[place] += add
			v[place+8] += add
			what := fmt.Sprintf("the bytes %d and %d are %d more", place, place+8, add)
			isErrForm(t, what, laidDisk(t, 15, v, all))
		}
	}
	isErrForm(t, "all bytes 255", laidDisk(t, 20, bytes.Repeat([]byte{255}, 64), all))
	isErrForm(t, "all bytes 1", laidDisk(t, 20, bytes.Repeat([]byte{1}, 64), all))
	v := append(bytes.Repeat([]byte{255}, 16), make([]byte, 48)...)
	isErrForm(t, "both numbers the greatest", laidDisk(t, 20, v, all))
}

// P15.1: more than noughts behind the two numbers, by each byte, also where there is no entry.
func TestNoughtsThatAreNot(t *testing.T) {
	for place := 16; place < 64; place++ {
		for _, c := range []byte{1, 128, 255} {
			v := valueOf(2, 3)
			v[place] = c
			what := fmt.Sprintf("the byte %d is %d", place, c)
			isErrForm(t, what, laidDisk(t, 20, v, joined([]byte("a"), counted(1, 100))))
			v = valueOf(0, 0)
			v[place] = c
			isErrForm(t, what+", of no entry", laidDisk(t, 3, v, nil))
		}
	}
}

// P15.1: too many or too few sectors for so many entries, or entries for so many sectors.
func TestNumbersThatDiffer(t *testing.T) {
	entries := [][]byte{counted(1, 100), {}, counted(9, 200), []byte("z")}
	all := joined(entries...)
	ends := []int{0, 2, 3, 7, 8}
	for count := range 12 {
		for taken := range 12 {
			what := fmt.Sprintf("%d entries in %d sectors", count, taken)
			d := laidDisk(t, 30, valueOf(count, taken), all)
			// Behind the last one stand noughts: entries of no bytes, as long as the mark counts them.
			want := entries[:min(count, 4)]
			end := ends[len(want)]
			for range count - len(want) {
				want = append(want[:len(want):len(want)], nil)
				end++
			}
			if end == taken {
				finds(t, what, d, want...)
				continue
			}
			isErrForm(t, what, d)
		}
	}
}

// P15.1: sectors beyond the disk's end, also where the entries that stand there would be right.
func TestBeyondTheEnd(t *testing.T) {
	b := counted(1, 200)
	all := joined([]byte("a"), b)
	finds(t, "just up to the end", laidDisk(t, 8, valueOf(2, 5), all), []byte("a"), b)
	for n := 4; n < 8; n++ {
		isErrForm(t, fmt.Sprint(n, " sectors"), laidDisk(t, n, valueOf(2, 5), all[:64*(n-3)]))
	}
	isErrForm(t, "one entry on a disk of three", laidDisk(t, 3, valueOf(1, 1), nil))
	isErrForm(t, "one sector of no entry on a disk of three", laidDisk(t, 3, valueOf(0, 1), nil))
	isErrForm(t, "one entry in no sector", laidDisk(t, 3, valueOf(1, 0), nil))
	isErrForm(t, "one entry more than the greatest disk has room for", laidDisk(t, 4096, valueOf(4094, 4094), nil))
	finds(t, "as many as the greatest disk has room for", laidDisk(t, 4096, valueOf(4093, 4093), nil), make([][]byte, 4093)...)
}

// P15.1: an entry's length above MaxEntry, by each of its two bytes, as the first and as the last one, with sectors enough for it.
func TestLengthTooGreat(t *testing.T) {
	for _, n := range []int{201, 202, 254, 255, 256, 257, 300, 456, 512, 32768, 32769, 51200, 65535} {
		for _, taken := range []int{1, 4, 5, 6, (n + 65) / 64} {
			first := make([]byte, 64*20)
			first[0], first[1] = byte(n%256), byte(n/256)
			what := fmt.Sprintf("%d bytes in %d sectors", n, taken)
			isErrForm(t, what, laidDisk(t, 1200, valueOf(1, taken), first))
			last := append(laidOut([]byte("a")), first...)
			isErrForm(t, what+", behind another", laidDisk(t, 1200, valueOf(2, taken+1), last))
		}
	}
}

// P15.1: an entry that goes beyond the sectors that the mark tells, though the disk has them.
func TestBeyondTheMark(t *testing.T) {
	for _, n := range []int{63, 126, 127, 190, 191, 200} {
		takes := takesByTable(n)
		all := joined([]byte("a"), counted(1, n))
		for taken := range takes {
			what := fmt.Sprintf("%d bytes in %d sectors", n, taken)
			isErrForm(t, what, laidDisk(t, 20, valueOf(2, 1+taken), all))
		}
		isErrForm(t, "a sector more", laidDisk(t, 20, valueOf(2, 2+takes), all))
	}
}

// P15.1: what stands behind an entry's bytes in its last sector counts for nothing; it stays as it is.
func TestBehindTheBytes(t *testing.T) {
	for n := range 201 {
		b := counted(byte(n), n)
		takes := takesByTable(n)
		all := joined(b)
		for i := n + 2; i < len(all); i++ {
			all[i] = byte(255 - i%3)
		}
		d := laidDisk(t, 9, valueOf(2, takes+1), append(all, laidOut([]byte("z"))...))
		what := fmt.Sprint(n, " bytes")
		s := finds(t, what, d, b, []byte("z"))
		if got := held(t, d, 3, takes); !bytes.Equal(got, all) {
			t.Errorf("%s: Open wrote %x", what, got)
		}
		first, _ := s.Entry(0)
		if !bytes.Equal(first[:n], b) || len(first) != n {
			t.Errorf("%s: Entry(0) is %x", what, first)
		}
	}
}

// P15.1: what stands behind the sectors that the mark tells counts for nothing.
func TestBehindTheSectors(t *testing.T) {
	all := append(joined([]byte("a")), bytes.Repeat([]byte{255}, 640)...)
	d := laidDisk(t, 14, valueOf(1, 1), all)
	s := finds(t, "all ones behind", d, []byte("a"))
	answers(t, "Append", s.Append([]byte("b")), api.OK)
	answers(t, "Commit", s.Commit(), api.OK)
	finds(t, "all ones behind", d, []byte("a"), []byte("b"))
}

// unsteady answers a disk of two entries, whose mark's three sectors have those values.
func unsteady(t *testing.T, first, second, third []byte) *disk.Disk {
	t.Helper()
	d := laidDisk(t, 9, first, joined([]byte("a"), counted(1, 70)))
	answers(t, "Write", d.Write(1, second), api.OK)
	answers(t, "Write", d.Write(2, third), api.OK)
	answers(t, "Sync", d.Sync(), api.OK)
	return d
}

// P15.1: the mark is mended ahead of all that is asked of it, and what Open finds is by its value; the mending lasts.
func TestMended(t *testing.T) {
	a, b := []byte("a"), counted(1, 70)
	none, one, two, bad := valueOf(0, 0), valueOf(1, 1), valueOf(2, 3), valueOf(7, 1)
	for _, m := range []struct {
		what   string
		values [3][]byte
		value  []byte
		kept   [][]byte
		form   bool
	}{
		{"the first new", [3][]byte{two, one, one}, one, [][]byte{a}, false},
		{"the first bad", [3][]byte{bad, one, one}, one, [][]byte{a}, false},
		{"the first bad, the others none", [3][]byte{bad, none, none}, none, nil, false},
		{"the second old", [3][]byte{two, one, two}, two, [][]byte{a, b}, false},
		{"the third old", [3][]byte{two, two, one}, two, [][]byte{a, b}, false},
		{"the second bad", [3][]byte{two, bad, one}, two, [][]byte{a, b}, false},
		{"all different", [3][]byte{one, two, none}, one, [][]byte{a}, false},
		{"the last two bad", [3][]byte{two, bad, bad}, bad, nil, true},
		{"a bad value", [3][]byte{bad, one, two}, bad, nil, true},
	} {
		d := unsteady(t, m.values[0], m.values[1], m.values[2])
		s, e := Open(d)
		if m.form {
			if s != nil || e != api.ErrForm {
				t.Errorf("%s: %v, %d", m.what, s, e)
			}
		} else {
			finds(t, m.what, d, m.kept...)
		}
		d.Crash(noFate)
		if got := held(t, d, 0, 3); !bytes.Equal(got, bytes.Repeat(m.value, 3)) {
			t.Errorf("%s: the mark is %x", m.what, got)
		}
	}
}

// P15.1, R2: the error of the mending comes ahead of ErrForm.
func TestMendingAheadOfForm(t *testing.T) {
	bad := valueOf(7, 1)
	for fuse := range 5 {
		d := unsteady(t, bad, valueOf(1, 1), valueOf(2, 3))
		d.SetFuse(fuse)
		s, e := Open(d)
		want := api.ErrLost
		if fuse >= 4 {
			want = api.ErrForm
		}
		if s != nil || e != want || d.Down() != (want == api.ErrLost) {
			t.Errorf("a fuse of %d: %v, %d, down %v", fuse, s, e, d.Down())
		}
	}
}

// P15.1: a disk that isn't a store's is ErrForm again and again, till it is one.
func TestFormAgain(t *testing.T) {
	d := laidDisk(t, 9, valueOf(1, 2), joined([]byte("a")))
	isErrForm(t, "once", d)
	isErrForm(t, "twice", d)
	d.SetFuse(-1)
	for i := range 3 {
		answers(t, "Write", d.Write(i, valueOf(1, 1)), api.OK)
	}
	finds(t, "now it is one", d, []byte("a"))
}
