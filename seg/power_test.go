package seg_test

import (
	"slices"
	"strings"
	"testing"

	"tribunal/api"
	"tribunal/disk"
	"tribunal/seg"
)

// masks are keeps of all kinds.
func masks() []uint64 {
	list := []uint64{none, all, 0b10, 0b101, 0b0110, 0x5555555555555555, 0xaaaaaaaaaaaaaaaa, 1<<63 | 1, 1<<63 - 1, 0xffffffff, 0xffffffff00000000}
	for bit := range 64 {
		list = append(list, 1<<bit, all^1<<bit)
	}
	return list
}

// survives lets the power fail in an act of a batch, and asks for the records that must be there then: those before, and all of the batch, if its slot was written and is kept.
func survives(t *testing.T, d *disk.Disk, m model, n int, keep uint64, before, batch []string) {
	t.Helper()
	acts := len(m.acts(batch...))
	s := opened(t, d, before...)
	d.Arm(n, keep)
	refused(t, s, api.ErrDown, batch...)
	if !d.Down() {
		t.Fatal("the power has not failed")
	}
	rejected(t, d, api.ErrDown)
	d.On()
	want := slices.Clone(before)
	if n >= acts-1 && keep&1 == 1 {
		want = append(want, batch...)
	}
	s = opened(t, d, want...)
	// And what follows is stored behind that.
	appended(t, s, "end", of(130))
	opened(t, d, append(want, "end", of(130))...)
	if t.Failed() {
		t.Fatalf("epoch %d, %d valid bytes, %d records, act %d of %d, keep %b", m.epoch, len(m.valid), len(batch), n, acts, keep)
	}
}

// P8.2: the power fails in each act of a batch, with masks of all kinds: what was acknowledged is there, and the batch completely or not at all.
func TestFailureInEachAct(t *testing.T) {
	for i, start := range starts() {
		if start.epoch > last-3 {
			continue // the seg that is opened again could store nothing more
		}
		before, _ := decoded(start.valid)
		list := masks()
		if i%3 > 0 {
			list = list[:13]
		}
		for _, batch := range batches() {
			for n := 1; n <= len(start.acts(batch...)); n++ {
				for _, keep := range list {
					survives(t, start.disk(12), start, n, keep, before, batch)
				}
			}
		}
	}
}

// P8.2: that holds for a batch of more sectors than a mask has bits, too.
func TestFailureInGreatBatch(t *testing.T) {
	start := model{5, texts("one", of(180))}
	batch := []string{strings.Repeat("a", 9000), "", strings.Repeat("b", 2000), strings.Repeat("c", 10)}
	acts := len(start.acts(batch...))
	if acts < 80 {
		t.Fatalf("%d acts", acts)
	}
	for n := 1; n <= acts; n++ {
		for _, keep := range masks()[:20] {
			survives(t, start.disk(100), start, n, keep, []string{"one", of(180)}, batch)
		}
	}
}

// P8.2: that holds wherever the current slot is: also where the slot that is written is the current one itself.
func TestFailureWithAnySlots(t *testing.T) {
	valid := texts("one", of(200))
	size := uint64(len(valid))
	for _, epochs := range [][2]uint64{{0, 0}, {1, 1}, {2, 2}, {7, 7}, {3, 2}, {2, 3}, {3, 0}, {0, 2}, {8, 1}, {9, 4}, {1, 1 << 40}, {1<<40 + 1, 0}} {
		for _, other := range []uint64{0, 5, size, 7, 300} {
			zero, one := slot(epochs[0], size), slot(epochs[1], other)
			if epochs[1] > epochs[0] {
				zero, one = slot(epochs[0], other), slot(epochs[1], size)
			}
			m := model{max(epochs[0], epochs[1]), valid}
			for _, batch := range [][]string{{}, {"x"}, {of(100), of(200)}} {
				for n := 1; n <= len(m.acts(batch...)); n++ {
					for _, keep := range masks()[:15] {
						survives(t, laid(8, zero, one, valid), m, n, keep, []string{"one", of(200)}, batch)
					}
				}
			}
		}
	}
}

// P8.2: a failure between two batches loses nothing, whatever the mask is.
func TestFailureBetweenBatches(t *testing.T) {
	for _, keep := range masks() {
		d := disk.New(40)
		s := opened(t, d)
		var want []string
		for i, batch := range batches() {
			appended(t, s, batch...)
			want = append(want, batch...)
			d.Off(keep)
			d.On()
			// The seg has met no error: it goes on, whether it is opened again or not.
			if i%3 == 0 {
				s = opened(t, d, want...)
			}
		}
		opened(t, d, want...)
	}
}

// P8.2: failure upon failure, at the same batch: each time it is there completely or not at all, and never a part of one before.
func TestFailureUponFailure(t *testing.T) {
	r := row(17)
	for range 300 {
		d := model{uint64(r.next(5)), texts("one", of(1+r.next(100)))}.disk(12)
		_, have, _ := seg.Open(d)
		for i := range 12 {
			s := opened(t, d, have...)
			batch := []string{strings.Repeat(string(rune('a'+i)), r.next(300)), strings.Repeat(string(rune('A'+i)), r.next(300))}
			d.Arm(1+r.next(8), r.mask())
			e := s.Append(batch...)
			if e == api.ErrFull {
				break
			}
			d.Off(r.mask())
			d.On()
			_, list, f := seg.Open(d)
			with := append(slices.Clone(have), batch...)
			if f != api.OK || !slices.Equal(list, with) && (e == api.OK || !slices.Equal(list, have)) {
				t.Fatalf("append: %d; open: %d, %d records, want %d or %d", e, f, len(list), len(have), len(with))
			}
			have = list
		}
	}
}

// P8.2: long runs of batches, of failures in acts and between them, and of segs that are opened again.
func TestLongRuns(t *testing.T) {
	r := row(23)
	lost, kept := 0, 0
	for range 150 {
		d := disk.New(3 + r.next(40))
		s := opened(t, d)
		var have []string
		for range 60 {
			switch r.next(6) {
			case 0:
				d.Arm(1+r.next(30), r.mask())
			case 1:
				d.Off(r.mask())
				d.On()
			case 2:
				s = opened(t, d, have...)
			}
			batch := r.batch([]int{4, 140, 400, 1300}[r.next(4)])
			with := append(slices.Clone(have), batch...)
			e := s.Append(batch...)
			switch e {
			case api.OK:
				have = with
				continue
			case api.ErrFull:
				continue
			case api.ErrDown:
			default:
				t.Fatalf("append: %d", e)
			}
			d.On()
			_, list, f := seg.Open(d)
			switch {
			case f != api.OK:
				t.Fatalf("open: %d", f)
			case slices.Equal(list, with) && len(batch) > 0:
				kept++
			case slices.Equal(list, have):
				lost++
			default:
				t.Fatalf("%d records, want %d or %d", len(list), len(have), len(with))
			}
			have = list
			s = opened(t, d, have...)
		}
		opened(t, d, have...)
	}
	if lost < 50 || kept < 20 {
		t.Errorf("only %d batches lost, %d kept", lost, kept)
	}
}
