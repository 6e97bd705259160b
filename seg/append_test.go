package seg_test

import (
	"slices"
	"strings"
	"testing"

	"tribunal/api"
	"tribunal/disk"
	"tribunal/seg"
)

// starts are what may be there before a batch: nothing, and valid bytes that end within a sector, at its end, and around it, with even and odd epochs.
func starts() []model {
	var list []model
	for i, records := range [][]string{
		nil, {""}, {"one", "two"}, {of(100)}, {of(127)}, {of(128)}, {of(128), ""}, {of(255)},
		{of(128), of(128)}, {of(128), of(128), "end"}, {of(253), "", "", ""}, {strings.Repeat("x", 300)},
	} {
		for epoch := range uint64(3) {
			list = append(list, model{epoch*uint64(i+1) + epoch/2, texts(records...)})
		}
	}
	return append(list, model{last - 1, texts("one")}, model{last - 2, texts(of(128))})
}

// batches end within a sector, at its end, or beyond it, depending on where they begin.
func batches() [][]string {
	return [][]string{
		{}, {""}, {"", "", ""}, {"x"}, {of(27), ""}, {of(28)}, {of(29)}, {of(30)}, {of(126)}, {of(127)}, {of(128)}, {of(128), ""},
		{"one", "two", "three"}, {of(255)}, {of(128), of(128)}, {of(128), "", of(127), of(128)}, {strings.Repeat("y", 400)}, {of(250), of(200), "", of(60)},
	}
}

// P8.1: the chapter's example.
func TestAppendExample(t *testing.T) {
	d := disk.New(3)
	s := opened(t, d)
	appended(t, s, "hi")
	want := disk.New(3)
	want.Write(2, 1, 2, 'h', 'i')
	want.Sync()
	want.Write(1, 0, 0, 0, 0, 0, 0, 0, 1, 0, 0, 0, 0, 0, 0, 0, 4)
	want.Sync()
	alike(t, d, want)
	holds(t, s, d, 4)
}

// P8.1: the acts of a batch, in their order, and the bytes of every sector behind each: the power fails in each act, with all, with none and with one of the pending writes kept, on a disk of the seg and on one on which the chapter's acts are performed.
func TestAppendActs(t *testing.T) {
	const sectors = 9
	masks := []uint64{none, all}
	for i := range 7 {
		masks = append(masks, 1<<i)
	}
	for _, start := range starts() {
		for _, batch := range batches() {
			acts := start.acts(batch...)
			records, _ := decoded(start.valid)
			for n := range len(acts) + 2 {
				for _, keep := range masks {
					d, want := start.disk(sectors), start.disk(sectors)
					s := opened(t, d, records...)
					d.Arm(n, keep)
					want.Arm(n, keep)
					e, f := s.Append(batch...), perform(want, acts)
					if e != f || (e != api.OK) != (n >= 1 && n <= len(acts)) {
						t.Errorf("error %d, want %d", e, f)
					}
					if e == api.OK {
						holds(t, s, d, len(start.with(batch...).valid))
					} else {
						holds(t, s, d, len(start.valid))
					}
					alike(t, d, want)
					if t.Failed() {
						t.Fatalf("epoch %d, %d valid bytes, batch %q, act %d, keep %b", start.epoch, len(start.valid), batch, n, keep)
					}
				}
			}
		}
	}
}

// P8.1: every number of valid bytes up to three sectors, and every number of new ones: what is written, and what is there.
func TestAppendEverySize(t *testing.T) {
	for size := range 385 {
		start := model{uint64(size), strings.Repeat("\x00", size)}
		before, _ := decoded(start.valid)
		for _, more := range []int{0, 1, 2, 3, 64, 100, 126, 127, 128, 129, 130, 255, 256, 257, 258, 384} {
			batch := filling(more)
			d, want := start.disk(8), start.disk(8)
			s := opened(t, d, before...)
			appended(t, s, batch...)
			holds(t, s, d, size+more)
			perform(want, start.acts(batch...))
			alike(t, d, want)
			opened(t, d, append(slices.Clone(before), batch...)...)
		}
	}
}

// P8.1: a batch without records rewrites the sector in which the valid bytes end, if they end within one, and otherwise none; two syncs and a slot it performs in each case.
func TestAppendNothing(t *testing.T) {
	for _, c := range []struct {
		size, acts int
	}{{0, 3}, {1, 4}, {127, 4}, {128, 3}, {129, 4}, {255, 4}, {256, 3}} {
		start := model{4, strings.Repeat("\x00", c.size)}
		d := start.disk(4)
		records, _ := decoded(start.valid)
		s := opened(t, d, records...)
		before, acts := sectors(t, d), d.Acts()
		appended(t, s)
		if d.Acts() != acts+c.acts || d.Waits() != 0 {
			t.Errorf("%d valid bytes: %d acts, want %d", c.size, d.Acts()-acts, c.acts)
		}
		for at, b := range sectors(t, d) {
			want := before[at]
			switch {
			case at == 1:
				want = string(slot(5, uint64(c.size))) + strings.Repeat("\x00", 112)
			case c.size%128 > 0 && at == 2+c.size/128:
				want = before[at][:c.size%128] + strings.Repeat("\x00", 128-c.size%128)
			}
			if b != want {
				t.Errorf("%d valid bytes: sector %d: %x, want %x", c.size, at, b, want)
			}
		}
		appended(t, s, nil...)
		appended(t, s, []string{}...)
		opened(t, d, records...)
		lay(d, 1, string(slot(0, 0)))
		lay(d, 0, string(slot(7, 0)))
		opened(t, d)
	}
}

// P8.1: batch after batch, by one seg, beside the chapter's acts.
func TestAppendInARow(t *testing.T) {
	r := row(5)
	for range 40 {
		const count = 40
		d, want := soiled(count), soiled(count)
		for _, one := range []*disk.Disk{d, want} {
			lay(one, 0, string(slot(0, 0)))
			lay(one, 1, string(slot(0, 0)))
		}
		var m model
		var records []string
		s := opened(t, d)
		for {
			batch := r.batch(150)
			if len(m.with(batch...).valid) > 128*(count-2) {
				refused(t, s, api.ErrFull, batch...)
				break
			}
			appended(t, s, batch...)
			perform(want, m.acts(batch...))
			m = m.with(batch...)
			records = append(records, batch...)
			alike(t, d, want)
			holds(t, s, d, len(m.valid))
		}
		alike(t, d, want)
		opened(t, d, records...)
	}
}

// P8.1: the slot that is written is sector (n + 1) modulo 2 for the epoch n, wherever the current slot is: by it the batch is stored, on disks with any slots.
func TestAppendSlot(t *testing.T) {
	valid := texts("one", "two")
	size := uint64(len(valid))
	epochs := []uint64{0, 1, 2, 3, 4, 1 << 32, 1<<32 + 1, last - 2, last - 1}
	for _, a := range epochs {
		for _, b := range epochs {
			d, want := laid(4, slot(a, size), slot(b, size), valid), laid(4, slot(a, size), slot(b, size), valid)
			m := model{max(a, b), valid}
			s := opened(t, d, "one", "two")
			appended(t, s, "three")
			perform(want, m.acts("three"))
			alike(t, d, want)
			opened(t, d, "one", "two", "three")
			if m = m.with("three"); m.epoch < last {
				appended(t, s, "four")
				perform(want, m.acts("four"))
				alike(t, d, want)
				opened(t, d, "one", "two", "three", "four")
			}
		}
	}
}

// P8.1: ErrFull comes with one byte too many, not with the last byte that fits, in one record and in several, on an empty disk and behind records.
func TestAppendFull(t *testing.T) {
	for _, count := range []int{2, 3, 4, 5} {
		space := 128 * (count - 2)
		for size := range space + 1 {
			room := space - size
			start := model{uint64(size), strings.Repeat("\x00", size)}
			records, _ := decoded(start.valid)
			d, want := start.disk(count), start.disk(count)
			s := opened(t, d, records...)
			for _, more := range []int{1, 2, 3, 100, 10000} {
				refused(t, s, api.ErrFull, filling(room+more)...)
				refused(t, s, api.ErrFull, slices.Repeat([]string{""}, room+more)...)
				refused(t, s, api.ErrFull, strings.Repeat("x", room+more-1))
			}
			alike(t, d, want)
			holds(t, s, d, size)
			for _, batch := range [][]string{filling(room), slices.Repeat([]string{""}, room)} {
				d, want := start.disk(count), start.disk(count)
				s := opened(t, d, records...)
				appended(t, s, batch...)
				holds(t, s, d, space)
				perform(want, start.acts(batch...))
				alike(t, d, want)
				refused(t, s, api.ErrFull, "")
				// Without a record there is nothing that needs space.
				appended(t, s)
				perform(want, start.with(batch...).acts())
				alike(t, d, want)
				opened(t, d, append(slices.Clone(records), batch...)...)
			}
		}
	}
}

// P8.1: the last byte that fits, and one too many, in a single record whose size is encoded in one byte, in two and in three.
func TestAppendFullSingle(t *testing.T) {
	for _, c := range []struct{ count, digits int }{{3, 1}, {4, 1}, {5, 2}, {100, 2}, {600, 3}, {1900, 3}} {
		d := disk.New(c.count)
		s := opened(t, d)
		size := 128*(c.count-2) - 1 - c.digits
		refused(t, s, api.ErrFull, strings.Repeat("x", size+1))
		holds(t, s, d, 0)
		appended(t, s, strings.Repeat("x", size))
		holds(t, s, d, 128*(c.count-2))
		opened(t, d, strings.Repeat("x", size))
	}
}

// P8.1: a batch of which each record would fit by itself is ErrFull, if there is no space for all of them, and nothing of it is stored.
func TestAppendFullTogether(t *testing.T) {
	d := disk.New(4)
	s := opened(t, d)
	refused(t, s, api.ErrFull, of(128), of(128), "")
	refused(t, s, api.ErrFull, "", of(128), of(128))
	refused(t, s, api.ErrFull, of(64), of(64), of(64), of(65))
	if d.Acts() != 0 || d.Waits() != 0 {
		t.Errorf("%d acts", d.Acts())
	}
	opened(t, d)
	appended(t, s, of(128), of(127), "")
	holds(t, s, d, 256)
}

// P8.1: with the epoch 2^62 nothing more can be stored, not even a batch without records; up to it, everything can.
func TestAppendLastEpoch(t *testing.T) {
	valid := texts("one")
	for _, epoch := range []uint64{last - 3, last - 2, last - 1, last} {
		m := model{epoch, valid}
		d, want := m.disk(4), m.disk(4)
		s := opened(t, d, "one")
		for m.epoch < last {
			appended(t, s, "x")
			perform(want, m.acts("x"))
			m = m.with("x")
			alike(t, d, want)
		}
		for _, batch := range [][]string{{}, {""}, {"x"}, {of(250)}, {of(128), of(128), of(128)}} {
			refused(t, s, api.ErrFull, batch...)
			alike(t, d, want)
			holds(t, s, d, len(m.valid))
		}
		records, _ := decoded(m.valid)
		s = opened(t, d, records...)
		refused(t, s, api.ErrFull)
		alike(t, d, want)
	}
	// It is the current slot's epoch that counts, in whichever sector it is.
	s := opened(t, laid(4, slot(last, 0), slot(last, 5), valid))
	refused(t, s, api.ErrFull)
	s = opened(t, laid(4, slot(0, 0), slot(last, 5), valid), "one")
	refused(t, s, api.ErrFull)
}

// P8.1: a record of MaxRecord bytes is stored, one of more is ErrLong, wherever it is in the batch.
func TestAppendLong(t *testing.T) {
	longest := strings.Repeat("m", api.MaxRecord)
	d, want := disk.New(4000), disk.New(4000)
	s := opened(t, d)
	for _, size := range []int{api.MaxRecord + 1, api.MaxRecord + 2, 1<<18 - 4, 1 << 18, 1<<18 + 1, 1 << 20} {
		long := strings.Repeat("l", size)
		for _, batch := range [][]string{{long}, {long, "a"}, {"a", long}, {"a", long, "b"}, {longest, long}, {long, long}} {
			refused(t, s, api.ErrLong, batch...)
		}
	}
	alike(t, d, want)
	holds(t, s, d, 0)
	var m model
	for _, batch := range [][]string{{longest}, {"a", longest[1:], "", "b"}} {
		appended(t, s, batch...)
		perform(want, m.acts(batch...))
		m = m.with(batch...)
		alike(t, d, want)
		holds(t, s, d, len(m.valid))
	}
	opened(t, d, longest, "a", longest[1:], "", "b")
}

// P8.1: more records than a list of layer 1 has strings are stored as one batch.
func TestAppendMany(t *testing.T) {
	var batch []string
	for i := range 10000 {
		batch = append(batch, strings.Repeat("m", i%5))
	}
	d, want := disk.New(300), disk.New(300)
	s := opened(t, d)
	appended(t, s, batch...)
	perform(want, model{}.acts(batch...))
	alike(t, d, want)
	opened(t, d, batch...)
}

// P8.1: records of any bytes, and those whose encoded size has one byte, two and three, come back as they were.
func TestAppendAnyRecords(t *testing.T) {
	every := make([]byte, 256)
	for i := range every {
		every[i] = byte(i)
	}
	batch := []string{string(every), "\x00", "\x00\x00\x00", "\x01\x02", "\xff\xfe", "L\x00P", "", string(every[128:]), "é\u2029"}
	for _, size := range []int{1, 127, 128, 255, 256, 257, 65535, 65536, 65537} {
		batch = append(batch, strings.Repeat(string(every), 300)[:size])
	}
	d, want := disk.New(2000), disk.New(2000)
	s := opened(t, d)
	appended(t, s, batch...)
	perform(want, model{}.acts(batch...))
	alike(t, d, want)
	opened(t, d, batch...)
}

// P8.1: an error of the disk is returned by every later Append, whether the power is on again or not, and by no act.
func TestAppendEarlierError(t *testing.T) {
	start := model{6, texts("one", of(200))}
	batch := []string{"two", of(150)}
	for n := range len(start.acts(batch...)) + 1 {
		for _, keep := range []uint64{none, all, 1, 2} {
			d, want := start.disk(8), start.disk(8)
			s := opened(t, d, "one", of(200))
			d.Arm(n, keep)
			want.Arm(n, keep)
			if n == 0 { // the power is off already
				d.Off(keep)
				want.Off(keep)
			}
			refused(t, s, api.ErrDown, batch...)
			perform(want, start.acts(batch...))
			for _, later := range [][]string{batch, {}, {""}, {of(128)}, {strings.Repeat("x", 128*6)}} {
				refused(t, s, api.ErrDown, later...)
			}
			alike(t, d, want) // and the power is on
			for _, later := range [][]string{batch, {}, {""}, {of(128)}, {strings.Repeat("x", 128*6)}} {
				refused(t, s, api.ErrDown, later...)
			}
			alike(t, d, want)
			holds(t, s, d, len(start.valid))
			// A seg that is opened again knows nothing of it.
			again, list, e := seg.Open(d)
			if e != api.OK {
				t.Fatalf("open: %d", e)
			}
			appended(t, again, "three")
			opened(t, d, append(list, "three")...)
			refused(t, s, api.ErrDown)
		}
	}
}

// P8.1: while the power is off, a batch without records is ErrDown, too, whether there is a sector to be rewritten or not.
func TestAppendDown(t *testing.T) {
	for _, size := range []int{0, 1, 100, 128, 200, 256} {
		for _, batch := range [][]string{{}, {""}, {of(100)}} {
			start := model{1, strings.Repeat("\x00", size)}
			records, _ := decoded(start.valid)
			d := start.disk(6)
			s := opened(t, d, records...)
			d.Off(none)
			acts := d.Acts()
			refused(t, s, api.ErrDown, batch...)
			d.On()
			refused(t, s, api.ErrDown, batch...)
			if d.Acts() != acts || d.Waits() != 0 {
				t.Errorf("%d acts", d.Acts()-acts)
			}
			holds(t, s, d, size)
			opened(t, d, records...)
		}
	}
}

// P8.1: where several errors apply, it is ErrNil, then ErrLong, then the earlier error, then ErrFull, then that of the disk.
func TestAppendOrderOfErrors(t *testing.T) {
	long := strings.Repeat("l", api.MaxRecord+1)
	big := strings.Repeat("b", 1000)
	var missing *seg.Seg
	refused(t, missing, api.ErrNil, long)
	start := model{2, texts("one")}
	for _, epoch := range []uint64{2, last} {
		start.epoch = epoch
		d, want := start.disk(4), start.disk(4)
		s := opened(t, d, "one")
		d.Off(none)
		want.Off(none)
		// None of these is an error of the disk: what follows is not affected.
		refused(t, s, api.ErrLong, long)
		refused(t, s, api.ErrLong, big, long)
		refused(t, s, api.ErrFull, big)
		refused(t, s, api.ErrLong, long)
		refused(t, s, api.ErrFull, big)
		alike(t, d, want)
		if epoch == last {
			refused(t, s, api.ErrFull)
			continue
		}
		appended(t, s, "two")
		perform(want, start.acts("two"))
		alike(t, d, want)
		d.Arm(3, none)
		refused(t, s, api.ErrDown, "three")
		refused(t, s, api.ErrLong, long)
		refused(t, s, api.ErrLong, long, big)
		refused(t, s, api.ErrDown, big)
		d.On()
		refused(t, s, api.ErrLong, long)
		refused(t, s, api.ErrDown, big)
		refused(t, s, api.ErrDown)
		holds(t, s, d, len(texts("one", "two")))
		opened(t, d, "one", "two")
	}
}

// P8.1: an earlier error comes before ErrFull also where the epoch is 2^62 in the end.
func TestAppendErrorInLastEpoch(t *testing.T) {
	start := model{last - 1, texts("one")}
	d := start.disk(4)
	s := opened(t, d, "one")
	d.Arm(4, all) // the sync behind the slot, which is kept
	refused(t, s, api.ErrDown, "two")
	d.On()
	refused(t, s, api.ErrDown, "two")
	refused(t, s, api.ErrDown, of(128), of(128), of(128))
	again := opened(t, d, "one", "two")
	refused(t, again, api.ErrFull)
	refused(t, s, api.ErrDown)
}

// P8.1: a nil seg returns ErrNil and 0, whatever it is told.
func TestNilSeg(t *testing.T) {
	var s *seg.Seg
	for _, batch := range [][]string{nil, {}, {""}, {"a", "b"}, {strings.Repeat("l", api.MaxRecord+1)}} {
		refused(t, s, api.ErrNil, batch...)
		if s.Len() != 0 || s.Room() != 0 {
			t.Errorf("%d, %d", s.Len(), s.Room())
		}
	}
}

// P8.1: arguments are neither modified, spare capacity included, nor retained.
func TestArguments(t *testing.T) {
	d := disk.New(6)
	s := opened(t, d)
	whole := []string{"one", "two", "three", "spare", "more"}
	before := slices.Clone(whole)
	appended(t, s, whole[:3]...)
	refused(t, s, api.ErrFull, append(whole[:3:3], of(250), of(250), of(250))...)
	refused(t, s, api.ErrLong, append(whole[:3:3], strings.Repeat("l", api.MaxRecord+1))...)
	if !slices.Equal(whole, before) {
		t.Errorf("%q", whole)
	}
	whole[0], whole[2] = "changed", ""
	appended(t, s, "four")
	opened(t, d, "one", "two", "three", "four")
}

// P8.1: the records that Open returns are the caller's: they share no memory with the seg, nor with another result.
func TestResults(t *testing.T) {
	d := model{1, texts("one", "two")}.disk(4)
	_, a, _ := seg.Open(d)
	_, b, _ := seg.Open(d)
	clear(a[:cap(a)])
	_ = append(a[:0], "x", "y", "z")
	if !slices.Equal(b, []string{"one", "two"}) {
		t.Errorf("%q", b)
	}
	s := opened(t, d, "one", "two")
	appended(t, s, "three")
	opened(t, d, "one", "two", "three")
}

// P8.1: segs on two disks know nothing of one another.
func TestTwoSegs(t *testing.T) {
	a, b := disk.New(5), disk.New(5)
	first, second := opened(t, a), opened(t, b)
	appended(t, first, "a")
	holds(t, second, b, 0)
	if b.Acts() != 0 {
		t.Errorf("%d acts", b.Acts())
	}
	a.Off(all)
	refused(t, first, api.ErrDown, "aa")
	appended(t, second, "b", "bb")
	holds(t, first, a, 3)
	a.On()
	opened(t, a, "a")
	opened(t, b, "b", "bb")
}
