package disk_test

import (
	"slices"
	"testing"

	"tribunal/api"
	"tribunal/disk"
)

// spoil changes all bytes that a slice can reach.
func spoil(b []byte) {
	for i := range b[:cap(b)] {
		b[:cap(b)][i] ^= 0x5a
	}
}

// P7.3: bytes that were handed to Write are not retained: changing them changes no sector, neither now nor behind a sync or a failure.
func TestArgumentsNotRetained(t *testing.T) {
	for _, size := range []int{1, 2, 64, 127, 128} {
		d := disk.New(4)
		b := append(make([]byte, 0, 300), filled(size, 3)...)
		for at := range 3 {
			wrote(t, d, at, b...)
			if at == 0 {
				synced(t, d)
			}
		}
		spoil(b)
		contains(t, d, 0, filled(size, 3)...)
		contains(t, d, 1, filled(size, 3)...)
		d.Off(0b01)
		spoil(b)
		d.On()
		contains(t, d, 0, filled(size, 3)...)
		contains(t, d, 1, filled(size, 3)...)
		contains(t, d, 2)
		contains(t, d, 3)
	}
}

// P7.3: one buffer that is used for all writes stores what it contained at each of them.
func TestOneBuffer(t *testing.T) {
	d := disk.New(3)
	b := make([]byte, 128)
	for i := range 9 {
		for j := range b {
			b[j] = byte(i + 1)
		}
		wrote(t, d, i%3, b...)
	}
	clear(b)
	for at := range 3 {
		contains(t, d, at, filled(128, byte(at+7))...)
	}
	d.Off(0b000011001)
	d.On()
	contains(t, d, 0, filled(128, 4)...)
	contains(t, d, 1, filled(128, 5)...)
	contains(t, d, 2)
}

// P7.3: the bytes of an argument, and those of its spare capacity, are not changed, whatever the call returns.
func TestArgumentsNotModified(t *testing.T) {
	for _, size := range []int{0, 1, 100, 128, 129, 200} {
		whole := make([]byte, 400)
		for i := range whole {
			whole[i] = byte(i)*7 + 1
		}
		before := slices.Clone(whole)
		d := disk.New(2)
		wrote(t, d, 0, filled(128, 0xcc)...)
		d.Write(0, whole[:size]...)
		d.Write(2, whole[:size]...)
		d.Arm(1, all)
		d.Write(1, whole[:size]...)
		d.Off(all)
		d.Write(1, whole[:size]...)
		d.On()
		d.Sync()
		d.Read(0)
		if !slices.Equal(whole, before) {
			t.Errorf("%d bytes: the argument was changed", size)
		}
	}
}

// P7.3: bytes that Read returned are the caller's: changing them changes no sector, neither now nor behind a sync or a failure.
func TestResultsNotShared(t *testing.T) {
	d := disk.New(3)
	wrote(t, d, 0, 1, 2, 3)
	synced(t, d)
	wrote(t, d, 1, 4, 5, 6)
	for at := range 3 {
		b, e := d.Read(at)
		if e != api.OK {
			t.Fatalf("sector %d: %d", at, e)
		}
		spoil(b)
	}
	contains(t, d, 0, 1, 2, 3)
	contains(t, d, 1, 4, 5, 6)
	contains(t, d, 2)
	d.Off(all)
	d.On()
	contains(t, d, 0, 1, 2, 3)
	contains(t, d, 1, 4, 5, 6)
	contains(t, d, 2)
}

// P7.3: two results share no memory, and appending to one reaches no sector.
func TestResultsApart(t *testing.T) {
	d := disk.New(2)
	wrote(t, d, 0, 1, 2, 3)
	wrote(t, d, 1, 9)
	a, _ := d.Read(0)
	b, _ := d.Read(0)
	spoil(a)
	if !slices.Equal(b, full(1, 2, 3)) {
		t.Errorf("%d", b)
	}
	c, _ := d.Read(0)
	_ = append(c, filled(128, 7)...)
	contains(t, d, 1, 9)
}

// P7.3: what was read remains as it was, whatever the disk is told afterwards.
func TestResultsRemain(t *testing.T) {
	d := disk.New(1)
	wrote(t, d, 0, 1)
	early, _ := d.Read(0)
	wrote(t, d, 0, 2)
	pending, _ := d.Read(0)
	synced(t, d)
	later, _ := d.Read(0)
	wrote(t, d, 0, 3)
	d.Off(all)
	d.On()
	wrote(t, d, 0, 4)
	if !slices.Equal(early, full(1)) || !slices.Equal(pending, full(2)) || !slices.Equal(later, full(2)) {
		t.Errorf("%d, %d, %d", early[0], pending[0], later[0])
	}
}
