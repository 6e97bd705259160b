package disk_test

import (
	"slices"
	"testing"

	"tribunal/api"
	"tribunal/disk"
)

// absent are numbers of sectors that a disk of that size does not have.
func absent(size int) []int {
	return []int{-1, -2, -size, -size - 1, -127, -128, -1 << 14, -1 << 32, bottom, bottom + 1,
		size, size + 1, 2 * size, 2*size + 1, 1 << 14, 1<<14 + 1, 1 << 32, 1 << 57, 1 << 62, top - 1, top}
}

// P7.1: New gives so many sectors, none for a negative number, 2^14 for a greater one; nothing is pending, no act was made, and the power is on.
func TestNewAndSize(t *testing.T) {
	for _, c := range []struct{ sectors, want int }{
		{0, 0}, {1, 1}, {2, 2}, {3, 3}, {4, 4}, {100, 100}, {127, 127}, {128, 128}, {129, 129}, {1000, 1000},
		{-1, 0}, {-2, 0}, {-128, 0}, {-16384, 0}, {-1 << 32, 0}, {bottom + 1, 0}, {bottom, 0},
		{16383, 16383}, {16384, 16384}, {16385, 16384}, {16386, 16384}, {32768, 16384},
		{1 << 31, 16384}, {1<<32 + 1, 16384}, {1 << 57, 16384}, {1<<57 + 1, 16384}, {top - 1, 16384}, {top, 16384},
	} {
		d := disk.New(c.sectors)
		if d == nil || d.Size() != c.want {
			t.Fatalf("%d: %d sectors, want %d", c.sectors, d.Size(), c.want)
		}
		counts(t, d, false, 0, 0)
		for _, at := range []int{0, 1, c.want / 2, c.want - 1} {
			if at >= 0 && at < c.want {
				contains(t, d, at)
			}
		}
		for _, at := range []int{-1, c.want, c.want + 1} {
			if b, e := d.Read(at); e != api.ErrArg || len(b) != 0 {
				t.Errorf("%d: sector %d: %d, error %d", c.sectors, at, b, e)
			}
			if e := d.Write(at, 1); e != api.ErrArg {
				t.Errorf("%d: sector %d: error %d", c.sectors, at, e)
			}
		}
	}
}

// P7.1: a disk without sectors syncs, fails and is counted as any other.
func TestNoSectors(t *testing.T) {
	d := disk.New(0)
	synced(t, d)
	counts(t, d, false, 1, 0)
	d.Arm(2, all)
	synced(t, d)
	if e := d.Sync(); e != api.ErrDown {
		t.Errorf("error %d", e)
	}
	counts(t, d, true, 3, 0)
	if d.Size() != 0 || d.Write(0) != api.ErrArg {
		t.Error("there is a sector")
	}
}

// P7.1: each sector is what was written to it last, before a sync and behind it, and no other one.
func TestEachSector(t *testing.T) {
	for _, size := range []int{1, 2, 3, 64, 65, 200, api.MaxSector} {
		d := disk.New(size)
		for at := range size {
			wrote(t, d, at, byte(at), byte(at>>8), 1)
		}
		counts(t, d, false, size, size)
		for at := range size {
			contains(t, d, at, byte(at), byte(at>>8), 1)
		}
		synced(t, d)
		counts(t, d, false, size+1, 0)
		for at := range size {
			contains(t, d, at, byte(at), byte(at>>8), 1)
		}
		wrote(t, d, size/2, 7)
		for at := range size {
			if at == size/2 {
				contains(t, d, at, 7)
			} else {
				contains(t, d, at, byte(at), byte(at>>8), 1)
			}
		}
	}
}

// P7.1: a write of 0 to 128 bytes makes the sector these, followed by zeros, whatever was there; one of more is ErrArg, and no act.
func TestLengths(t *testing.T) {
	for size := range 300 {
		d := disk.New(3)
		for at := range 3 {
			wrote(t, d, at, filled(128, 0xee)...)
		}
		b := filled(size, byte(size)|1)
		e := d.Write(1, b...)
		if size <= 128 {
			counts(t, d, false, 4, 4)
			contains(t, d, 1, b...)
		} else {
			counts(t, d, false, 3, 3)
			contains(t, d, 1, filled(128, 0xee)...)
		}
		if size <= 128 != (e == api.OK) || size > 128 != (e == api.ErrArg) {
			t.Errorf("%d bytes: error %d", size, e)
		}
		contains(t, d, 0, filled(128, 0xee)...)
		contains(t, d, 2, filled(128, 0xee)...)
	}
}

// P7.1: greatly more than 128 bytes are ErrArg, too.
func TestGreatLengths(t *testing.T) {
	d := disk.New(2)
	wrote(t, d, 0, 5)
	for _, size := range []int{256, 257, 384, 1 << 10, 1<<16 + 1, 1 << 20} {
		if e := d.Write(0, make([]byte, size)...); e != api.ErrArg {
			t.Errorf("%d bytes: error %d", size, e)
		}
	}
	counts(t, d, false, 1, 1)
	contains(t, d, 0, 5)
	contains(t, d, 1)
}

// P7.1: sectors that are not there can neither be read nor written: ErrArg, nothing is counted, and nothing is changed.
func TestAbsentSectors(t *testing.T) {
	for _, size := range []int{0, 1, 2, 5, 128, 16384} {
		d := disk.New(size)
		if size > 0 {
			wrote(t, d, 0, 1)
			wrote(t, d, size-1, 2)
		}
		acts := d.Acts()
		for _, at := range absent(size) {
			for _, b := range [][]byte{nil, {9}, make([]byte, 128), make([]byte, 129)} {
				if e := d.Write(at, b...); e != api.ErrArg {
					t.Errorf("%d sectors: write of %d bytes to %d: %d", size, len(b), at, e)
				}
			}
			if b, e := d.Read(at); e != api.ErrArg || len(b) != 0 {
				t.Errorf("%d sectors: read of %d: %d, error %d", size, at, b, e)
			}
		}
		counts(t, d, false, acts, acts)
		if size > 0 {
			contains(t, d, size-1, 2)
		}
		if size > 1 {
			contains(t, d, 0, 1)
		}
	}
}

// P7.1: where several errors apply, it is ErrArg for a sector that is not there, then ErrDown, then ErrArg for too many bytes.
func TestOrderOfErrors(t *testing.T) {
	d := disk.New(4)
	wrote(t, d, 2, 6)
	synced(t, d)
	d.Off(all)
	for _, b := range [][]byte{nil, {1}, make([]byte, 128), make([]byte, 129), make([]byte, 1<<12)} {
		for _, at := range absent(4) {
			if e := d.Write(at, b...); e != api.ErrArg {
				t.Errorf("off: %d bytes to sector %d: %d", len(b), at, e)
			}
			if b, e := d.Read(at); e != api.ErrArg || len(b) != 0 {
				t.Errorf("off: sector %d: %d, error %d", at, b, e)
			}
		}
		for at := range 4 {
			if e := d.Write(at, b...); e != api.ErrDown {
				t.Errorf("off: %d bytes to sector %d: %d", len(b), at, e)
			}
			if b, e := d.Read(at); e != api.ErrDown || len(b) != 0 {
				t.Errorf("off: sector %d: %d, error %d", at, b, e)
			}
		}
	}
	if e := d.Sync(); e != api.ErrDown {
		t.Errorf("off: sync: %d", e)
	}
	counts(t, d, true, 2, 0)
	d.On()
	if e := d.Write(2, make([]byte, 129)...); e != api.ErrArg {
		t.Errorf("on: 129 bytes: %d", e)
	}
	counts(t, d, false, 2, 0)
	contains(t, d, 2, 6)
}

// P7.1: a sync leaves nothing pending, and is an act, whether anything was pending or not.
func TestSync(t *testing.T) {
	d := disk.New(3)
	synced(t, d)
	synced(t, d)
	counts(t, d, false, 2, 0)
	wrote(t, d, 0, 1)
	wrote(t, d, 0, 2)
	wrote(t, d, 1, 3)
	counts(t, d, false, 5, 3)
	synced(t, d)
	counts(t, d, false, 6, 0)
	wrote(t, d, 2, 4)
	wrote(t, d, 1, 5)
	counts(t, d, false, 8, 2)
	// What was synced is not among the writes that the mask counts.
	d.Off(0b10)
	d.On()
	contains(t, d, 0, 2)
	contains(t, d, 1, 5)
	contains(t, d, 2)
}

// P7.1: reads are no acts, and change nothing.
func TestReadsAreNoActs(t *testing.T) {
	d := disk.New(2)
	wrote(t, d, 0, 1)
	d.Arm(1, none)
	for range 100 {
		contains(t, d, 0, 1)
		contains(t, d, 1)
		d.Read(2)
		d.Size()
		counts(t, d, false, 1, 1)
	}
	if e := d.Sync(); e != api.ErrDown {
		t.Errorf("the sync is act 1: error %d", e)
	}
}

// P7.1: a nil disk returns ErrNil, zeros and false, whatever the arguments are, and does nothing.
func TestNilDisk(t *testing.T) {
	var d *disk.Disk
	for range 2 {
		for _, at := range append(absent(4), 0, 1, 2) {
			for _, b := range [][]byte{nil, {1}, make([]byte, 128), make([]byte, 129)} {
				if e := d.Write(at, b...); e != api.ErrNil {
					t.Errorf("write to %d: %d", at, e)
				}
			}
			if b, e := d.Read(at); e != api.ErrNil || len(b) != 0 {
				t.Errorf("read of %d: %d, error %d", at, b, e)
			}
			d.Arm(at, all)
		}
		if e := d.Sync(); e != api.ErrNil {
			t.Errorf("sync: %d", e)
		}
		counts(t, d, false, 0, 0)
		if d.Size() != 0 {
			t.Errorf("%d sectors", d.Size())
		}
		d.Off(all)
		d.Off(none)
		counts(t, d, false, 0, 0)
		d.On()
	}
}

// P7.1: two disks know nothing of one another.
func TestTwoDisks(t *testing.T) {
	a, b := disk.New(2), disk.New(2)
	wrote(t, a, 0, 1)
	synced(t, a)
	wrote(t, a, 1, 2)
	a.Arm(1, all)
	contains(t, b, 0)
	contains(t, b, 1)
	counts(t, b, false, 0, 0)
	wrote(t, b, 0, 3)
	a.Off(none)
	counts(t, a, true, 3, 0)
	counts(t, b, false, 1, 1)
	wrote(t, b, 1, 4)
	a.On()
	contains(t, a, 0, 1)
	contains(t, a, 1)
	contains(t, b, 0, 3)
	contains(t, b, 1, 4)
}

// P7.1: a sector's result has 128 bytes, and all that were written in their order.
func TestOrderOfBytes(t *testing.T) {
	d := disk.New(1)
	b := make([]byte, 128)
	for i := range b {
		b[i] = byte(255 - i)
	}
	wrote(t, d, 0, b...)
	got, e := d.Read(0)
	if e != api.OK || len(got) != 128 || !slices.Equal(got, b) {
		t.Errorf("%d, error %d", got, e)
	}
}
