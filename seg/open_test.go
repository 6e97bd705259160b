package seg_test

import (
	"slices"
	"strings"
	"testing"

	"tribunal/api"
	"tribunal/disk"
	"tribunal/seg"
)

// P8.1: a nil disk is ErrNil.
func TestOpenNil(t *testing.T) {
	rejected(t, nil, api.ErrNil)
}

// P8.1: a disk of fewer than two sectors is ErrArg, whether its power is on or off.
func TestOpenTooFewSectors(t *testing.T) {
	for _, size := range []int{-1, 0, 1} {
		d := disk.New(size)
		rejected(t, d, api.ErrArg)
		d.Write(0, 0xff)
		rejected(t, d, api.ErrArg)
		d.Off(all)
		rejected(t, d, api.ErrArg)
		d.On()
		rejected(t, d, api.ErrArg)
	}
}

// P8.1: a new disk of two and more sectors has no records, and space in all but two of its sectors.
func TestOpenNew(t *testing.T) {
	for _, size := range []int{2, 3, 4, 5, 100, 129, api.MaxSector, api.MaxSector + 1} {
		d := disk.New(size)
		s := opened(t, d)
		if want := 128 * (min(size, api.MaxSector) - 2); s.Len() != 0 || s.Room() != want {
			t.Errorf("%d sectors: %d and %d bytes, want 0 and %d", size, s.Len(), s.Room(), want)
		}
		if d.Acts() != 0 || d.Waits() != 0 {
			t.Errorf("%d sectors: %d acts", size, d.Acts())
		}
	}
}

// P8.1: while the power is off, Open returns ErrDown, whatever the disk contains.
func TestOpenDown(t *testing.T) {
	for _, d := range []*disk.Disk{
		disk.New(2),
		disk.New(9),
		model{3, texts("a", "b")}.disk(5),
		soiled(2),
		soiled(4),
		laid(4, slot(1, 5), slot(0, 0), "\x09...."),
		laid(4, slot(last+1, 0), slot(last+1, 257), ""),
	} {
		d.Off(none)
		rejected(t, d, api.ErrDown)
		rejected(t, d, api.ErrDown)
		if !d.Down() {
			t.Error("the power is on")
		}
	}
}

// P8.1: an epoch of up to 2^62 is permitted in either slot, a greater one in none, be it the current one or not.
func TestOpenEpochs(t *testing.T) {
	valid := texts("one", "", "two")
	size := uint64(len(valid))
	good := []uint64{0, 1, 2, 255, 256, 1 << 31, 1 << 32, 1<<56 + 1, last - 2, last - 1, last}
	bad := []uint64{last + 1, last + 2, last | 1<<61, 1<<63 - 1, 1 << 63, 1<<63 + 1, 3 << 62, all - 1, all}
	for _, a := range good {
		for _, b := range good {
			opened(t, laid(4, slot(a, size), slot(b, size), valid), "one", "", "two")
		}
		for _, b := range bad {
			rejected(t, laid(4, slot(a, size), slot(b, size), valid), api.ErrForm)
			rejected(t, laid(4, slot(b, size), slot(a, size), valid), api.ErrForm)
		}
	}
	for _, a := range bad {
		for _, b := range bad {
			rejected(t, laid(4, slot(a, size), slot(b, size), valid), api.ErrForm)
		}
	}
}

// P8.1: more valid bytes than the sectors from 2 on have are permitted in no slot, be it the current one or not.
func TestOpenSizes(t *testing.T) {
	for _, sectors := range []int{2, 3, 4, 9} {
		space := uint64(128 * (sectors - 2))
		valid := strings.Repeat("\x00", int(space))
		records := slices.Repeat([]string{""}, int(space))
		opened(t, laid(sectors, slot(5, space), slot(4, space), valid), records...)
		opened(t, laid(sectors, slot(4, space), slot(5, 0), valid))
		opened(t, laid(sectors, slot(4, 0), slot(5, space), valid), records...)
		for _, size := range []uint64{space + 1, space + 2, space + 128, space + 256, 1 << 31, 1 << 32, 1<<62 + 1, 1 << 63, 1<<63 + space, all - 1, all} {
			for _, epoch := range []uint64{0, 6, 7, 8, last} {
				rejected(t, laid(sectors, slot(epoch, size), slot(7, 0), valid), api.ErrForm)
				rejected(t, laid(sectors, slot(7, 0), slot(epoch, size), valid), api.ErrForm)
				rejected(t, laid(sectors, slot(epoch, size), slot(7, size), valid), api.ErrForm)
			}
			rejected(t, laid(sectors, slot(last+1, size), slot(7, 0), valid), api.ErrForm)
			rejected(t, laid(sectors, slot(7, 0), slot(all, size), valid), api.ErrForm)
		}
	}
}

// P8.1: the current slot is the one with the greater epoch; of equal ones that of sector 0.
func TestOpenCurrent(t *testing.T) {
	valid := texts("one", "two")
	one := uint64(len(text("one")))
	both := uint64(len(valid))
	epochs := []uint64{0, 1, 2, 3, 4, 255, 256, 257, 1 << 32, 1<<32 + 1, 1 << 61, last - 1, last}
	for _, a := range epochs {
		for _, b := range epochs {
			if a >= b {
				opened(t, laid(4, slot(a, one), slot(b, both), valid), "one")
				opened(t, laid(4, slot(a, both), slot(b, one), valid), "one", "two")
				opened(t, laid(4, slot(a, 0), slot(b, both), valid))
			} else {
				opened(t, laid(4, slot(a, both), slot(b, one), valid), "one")
				opened(t, laid(4, slot(a, one), slot(b, both), valid), "one", "two")
				opened(t, laid(4, slot(a, both), slot(b, 0), valid))
			}
		}
	}
}

// P8.1: the valid bytes of the current slot must be records; those of the other one need not.
func TestOpenOtherSlot(t *testing.T) {
	valid := texts("one", "two")
	size := uint64(len(valid))
	for _, other := range []uint64{1, 2, 3, 4, 7, size - 1, size + 1, 128, 129, 256} {
		opened(t, laid(4, slot(2, size), slot(1, other), valid), "one", "two")
		opened(t, laid(4, slot(2, size), slot(2, other), valid), "one", "two")
		opened(t, laid(4, slot(2, other), slot(3, size), valid), "one", "two")
		rejected(t, laid(4, slot(1, size), slot(2, other), valid), api.ErrForm)
		rejected(t, laid(4, slot(2, other), slot(2, size), valid), api.ErrForm)
		rejected(t, laid(4, slot(3, other), slot(2, size), valid), api.ErrForm)
	}
}

// P8.1: valid bytes that are no records are ErrForm, by themselves and behind records.
func TestOpenNoRecords(t *testing.T) {
	for _, bad := range []string{
		"\x01", "\x02", "\x08", "\x09", "\x0a", "\x80", "\xff", "a",
		"\x01\x00", "\x01\x01", "\x01\x02a", "\x01\xff", "\x01\x03ab",
		"\x02\x00\x01a", "\x02\x00", "\x02\x01", "\x02\x01\x00", "\x02\x00\x00",
		"\x03\x00\x00\x01a", "\x03\x00\x01\x00", "\x04\x00\x00\x00\x01a",
		"\x08\x00\x00\x00\x00\x00\x00\x00\x01a", "\x08\x01\x00\x00\x00\x00\x00\x00\x00a",
		"\x08\x7f\xff\xff\xff\xff\xff\xff\xff", "\x08\x80\x00\x00\x00\x00\x00\x00\x00", "\x08\xff\xff\xff\xff\xff\xff\xff\xff",
		"\x08\x7f\xff\xff\xff\xff\xff\xff\xf6", "\x08\x80\x00\x00\x00\x00\x00\x00\x01a",
		"\x09\x01\x00\x00\x00\x00\x00\x00\x00\x00", "\x09\x00\x00\x00\x00\x00\x00\x00\x00\x01a",
	} {
		for _, before := range [][]string{nil, {""}, {"one", "two"}, {of(128)}, {of(127)}, {of(200), ""}} {
			valid := texts(before...) + bad
			size := uint64(len(valid))
			rejected(t, laid(6, slot(1, size), slot(0, 0), valid), api.ErrForm)
			rejected(t, laid(6, slot(1, size), slot(2, size), valid), api.ErrForm)
			opened(t, laid(6, slot(1, size-uint64(len(bad))), slot(0, 0), valid), before...)
		}
	}
}

// P8.1: of valid bytes that are cut, only those that end with a record are records.
func TestOpenCut(t *testing.T) {
	records := []string{"one", "", "", of(128), of(125), "\x00\x00", strings.Repeat("x", 256), "\x01", of(5), "end"}
	valid := texts(records...)
	there := 0
	for size := range len(valid) + 1 {
		d := laid(8, slot(1, uint64(size)), slot(0, 0), valid)
		if size == len(texts(records[:there]...)) {
			opened(t, d, records[:there]...)
			there++
		} else {
			rejected(t, d, api.ErrForm)
		}
	}
	if there != len(records)+1 {
		t.Errorf("only %d of %d", there-1, len(records))
	}
}

// P8.1: all valid bytes of up to five out of seven, beside the records that these are.
func TestOpenShortBytes(t *testing.T) {
	const digits = "\x00\x01\x02\x03\x08\x09\xff"
	count := 1
	for length := 1; length <= 5; length++ {
		count *= len(digits)
		for number := range count {
			valid := ""
			for rest := number; len(valid) < length; rest /= len(digits) {
				valid += digits[rest%len(digits) : rest%len(digits)+1]
			}
			d := laid(3, slot(1, uint64(length)), slot(0, 0), valid)
			if list, found := decoded(valid); found {
				opened(t, d, list...)
			} else {
				rejected(t, d, api.ErrForm)
			}
			if t.Failed() {
				t.Fatalf("%x", valid)
			}
		}
	}
}

// P8.1: a record of MaxRecord bytes is permitted, one of more is not, wherever it stands.
func TestOpenGreatRecords(t *testing.T) {
	const sectors = 6000
	for _, c := range []struct {
		sizes []int
		want  api.Errno
	}{
		{[]int{249999}, api.OK},
		{[]int{250000}, api.OK},
		{[]int{250000, 0, 250000}, api.OK},
		{[]int{1, 250000, 1}, api.OK},
		{[]int{65535, 65536, 65537, 131072, 200000}, api.OK},
		{[]int{250001}, api.ErrForm},
		{[]int{250000, 250001}, api.ErrForm},
		{[]int{250001, 250000}, api.ErrForm},
		{[]int{3, 250001, 3}, api.ErrForm},
		{[]int{1<<18 - 5}, api.ErrForm},
		{[]int{1<<18 - 4}, api.ErrForm},
		{[]int{1<<18 - 3}, api.ErrForm},
		{[]int{1 << 18}, api.ErrForm},
		{[]int{1<<18 + 1, 7}, api.ErrForm},
		{[]int{500000}, api.ErrForm},
		{[]int{1, 700000}, api.ErrForm},
	} {
		var records []string
		for i, size := range c.sizes {
			records = append(records, strings.Repeat(string(rune('a'+i)), size))
		}
		valid := texts(records...)
		d := laid(sectors, slot(1, uint64(len(valid))), slot(0, 0), valid)
		if c.want == api.OK {
			opened(t, d, records...)
			// The last record's last byte is missing.
			lay(d, 0, string(slot(1, uint64(len(valid)-1))))
			rejected(t, d, api.ErrForm)
		} else {
			rejected(t, d, c.want)
		}
	}
}

// P8.1: a disk of all sectors that there may be, full of records up to its last byte.
func TestOpenFullDisk(t *testing.T) {
	const space = 128 * (api.MaxSector - 2)
	var records []string
	rest := space
	for rest > 250004 {
		records = append(records, strings.Repeat(string(rune('a'+len(records))), 250000))
		rest -= 250004
	}
	records = append(records, strings.Repeat("z", rest-4))
	valid := texts(records...)
	if len(valid) != space {
		t.Fatalf("%d bytes", len(valid))
	}
	d := laid(api.MaxSector, slot(0, 0), slot(1, space), valid)
	opened(t, d, records...)
	rejected(t, laid(api.MaxSector, slot(0, 0), slot(1, space-1), valid), api.ErrForm)
	rejected(t, laid(api.MaxSector, slot(0, 0), slot(1, space+1), valid), api.ErrForm)
}

// P8.1: there may be more records than a list of layer 1 has strings.
func TestOpenManyRecords(t *testing.T) {
	var records []string
	for i := range 20000 {
		records = append(records, strings.Repeat("x", i%4))
	}
	valid := texts(records...)
	opened(t, laid(600, slot(0, 0), slot(1, uint64(len(valid))), valid), records...)
}

// P8.1: what a slot's sector has behind the two numbers, and what there is behind the valid bytes, counts for nothing.
func TestOpenIgnoresTheRest(t *testing.T) {
	valid := texts("one", "two")
	d := disk.New(4)
	d.Write(0, slot(2, uint64(len(valid)))...)
	d.Write(2, []byte(valid)...)
	opened(t, d, "one", "two")
	for at, keep := range []int{16, 16, len(valid), 0} {
		b, _ := d.Read(at)
		for i := keep; i < 128; i++ {
			b[i] = 0xff
		}
		d.Write(at, b...)
		opened(t, d, "one", "two")
	}
}

// P8.1: what is pending is read as what is permanent.
func TestOpenPending(t *testing.T) {
	d := disk.New(3)
	valid := texts("one", "two")
	d.Write(1, slot(1, uint64(len(valid)))...)
	d.Write(2, []byte(valid)...)
	opened(t, d, "one", "two")
	if d.Waits() != 2 {
		t.Errorf("%d pending", d.Waits())
	}
	d.Off(none)
	d.On()
	opened(t, d)
}

// P8.1: Open performs no act, whatever it returns: nothing is written or synced, and what is armed remains so.
func TestOpenPerformsNoAct(t *testing.T) {
	valid := texts("one", "two", of(200))
	size := uint64(len(valid))
	for _, fresh := range []func() *disk.Disk{
		func() *disk.Disk { return disk.New(1) },
		func() *disk.Disk { return disk.New(2) },
		func() *disk.Disk { return disk.New(5) },
		func() *disk.Disk { return soiled(5) },
		func() *disk.Disk { return laid(5, slot(1, size), slot(2, size), valid) },
		func() *disk.Disk { return laid(5, slot(2, size-1), slot(1, size), valid) },
		func() *disk.Disk { return laid(5, slot(1, size), slot(last+1, size), valid) },
	} {
		d, twin := fresh(), fresh()
		for _, one := range []*disk.Disk{d, twin} {
			one.Write(0, slot(3, 0)...)
			one.Arm(2, none)
		}
		for range 5 {
			seg.Open(d)
		}
		if d.Acts() != twin.Acts() || d.Waits() != 1 || d.Down() {
			t.Fatalf("%d acts, want %d", d.Acts(), twin.Acts())
		}
		if e, f := d.Write(0, 1), twin.Write(0, 1); e != f {
			t.Errorf("the first act behind Open: %d, want %d", e, f)
		}
		if e, f := d.Sync(), twin.Sync(); e != f {
			t.Errorf("the second act behind Open: %d, want %d", e, f)
		}
		alike(t, d, twin)
	}
}

// P8.1: any bytes at all in the slots and behind them: Open returns records only where these are what is there, and otherwise ErrForm.
func TestOpenAnyContents(t *testing.T) {
	r := row(3)
	fine := 0
	for range 20000 {
		count := 2 + r.next(5)
		space := 128 * (count - 2)
		d := disk.New(count)
		for at := range count {
			d.Write(at, []byte(r.record(129))...)
		}
		valid := texts(r.batch(100)...)
		valid = valid[:min(len(valid), space)]
		for from := 0; from < len(valid); from += 128 {
			lay(d, 2+from/128, valid[from:min(from+128, len(valid))])
		}
		pick := func() ([]byte, uint64, uint64) {
			epoch := []uint64{0, 1, uint64(r.next(4)), last - 1, last, last + 1, all}[r.next(7)]
			size := []uint64{0, uint64(len(valid)), uint64(len(valid)), uint64(r.next(600)), uint64(space)}[r.next(5)]
			return slot(epoch, size), epoch, size
		}
		zero, epoch, size := pick()
		one, otherEpoch, otherSize := pick()
		lay(d, 0, string(zero))
		lay(d, 1, string(one))
		wrong := max(epoch, otherEpoch) > last || max(size, otherSize) > uint64(space)
		if otherEpoch > epoch {
			size = otherSize
		}
		bytes := strings.Join(sectors(t, d)[2:], "")
		if wrong {
			rejected(t, d, api.ErrForm)
		} else if list, found := decoded(bytes[:size]); !found {
			rejected(t, d, api.ErrForm)
		} else {
			opened(t, d, list...)
			fine++
		}
		if t.Failed() {
			t.FailNow()
		}
	}
	if fine < 1000 {
		t.Errorf("only %d could be opened", fine)
	}
}
