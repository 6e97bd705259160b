package disk_test

import (
	"math"
	"slices"
	"testing"

	"tribunal/api"
	"tribunal/disk"
)

// top and bottom are the greatest and the least number.
const (
	top    = math.MaxInt64
	bottom = math.MinInt64
)

// all and none are the masks that keep every pending write, and no one.
const (
	all  = math.MaxUint64
	none = 0
)

// row is numbers that look like chance, the same ones in each run.
type row uint64

func (r *row) next(below int) int {
	*r = *r*6364136223846793005 + 1442695040888963407
	return int(uint64(*r)>>33) % below
}

func (r *row) mask() uint64 {
	switch r.next(5) {
	case 0:
		return none
	case 1:
		return all
	case 2:
		return 1 << r.next(64)
	}
	return uint64(r.next(1<<22))<<42 ^ uint64(r.next(1<<22))<<21 ^ uint64(r.next(1<<22))
}

func (r *row) bytes(size int) []byte {
	b := make([]byte, size)
	for i := range b {
		b[i] = byte(r.next(256))
	}
	return b
}

// full is a sector's bytes: these, followed by zeros.
func full(b ...byte) []byte {
	return append(slices.Clone(b), make([]byte, 128-len(b))...)
}

// filled is so many bytes, all of them b.
func filled(size int, b byte) []byte {
	return slices.Repeat([]byte{b}, size)
}

// store is a write of the reference.
type store struct {
	at int
	b  []byte
}

// model is a disk as the chapter tells it: all that was ever made permanent, and what is pending; a sector is looked for from the last write back.
type model struct {
	size    int
	lasting []store
	pending []store
	down    bool
	acts    int
	left    int
	keep    uint64
}

func (m *model) there(at int) bool {
	return 0 <= at && at < m.size
}

func (m *model) fail(keep uint64) {
	for i, s := range m.pending {
		for bit := range 64 {
			if i%64 == bit && keep&(uint64(1)<<bit) != 0 {
				m.lasting = append(m.lasting, s)
			}
		}
	}
	m.pending, m.down, m.left = nil, true, 0
}

// blown counts an act, and tells whether the power fails in it.
func (m *model) blown() bool {
	m.acts++
	if m.left > 0 {
		m.left--
		if m.left == 0 {
			m.fail(m.keep)
			return true
		}
	}
	return false
}

func (m *model) write(at int, b []byte) api.Errno {
	if !m.there(at) {
		return 1
	}
	if m.down {
		return 7
	}
	if len(b) > 128 {
		return 1
	}
	m.pending = append(m.pending, store{at, full(b...)})
	if m.blown() {
		return 7
	}
	return 0
}

func (m *model) sync() api.Errno {
	if m.down || m.blown() {
		return 7
	}
	m.lasting = append(m.lasting, m.pending...)
	m.pending = nil
	return 0
}

func (m *model) off(keep uint64) {
	if !m.down {
		m.fail(keep)
	}
}

func (m *model) arm(n int, keep uint64) {
	m.left, m.keep = n, keep
	if n < 1 {
		m.left = 0
	}
}

func (m *model) read(at int) ([]byte, api.Errno) {
	if !m.there(at) {
		return nil, 1
	}
	if m.down {
		return nil, 7
	}
	for _, list := range [][]store{m.pending, m.lasting} {
		for i := len(list) - 1; i >= 0; i-- {
			if list[i].at == at {
				return list[i].b, 0
			}
		}
	}
	return full(), 0
}

// wrote writes a sector, and asks for OK.
func wrote(t *testing.T, d *disk.Disk, at int, b ...byte) {
	t.Helper()
	if e := d.Write(at, b...); e != api.OK {
		t.Fatalf("write of %d bytes to sector %d: %d", len(b), at, e)
	}
}

// synced syncs a disk, and asks for OK.
func synced(t *testing.T, d *disk.Disk) {
	t.Helper()
	if e := d.Sync(); e != api.OK {
		t.Fatalf("sync: %d", e)
	}
}

// contains asks for a sector's bytes: these, followed by zeros.
func contains(t *testing.T, d *disk.Disk, at int, b ...byte) {
	t.Helper()
	if got, e := d.Read(at); e != api.OK || !slices.Equal(got, full(b...)) {
		t.Errorf("sector %d: %d, error %d, want %d", at, got, e, b)
	}
}

// counts asks for what a disk tells of itself.
func counts(t *testing.T, d *disk.Disk, down bool, acts, waits int) {
	t.Helper()
	if d.Down() != down || d.Acts() != acts || d.Waits() != waits {
		t.Errorf("down %v, %d acts, %d pending, want %v, %d, %d", d.Down(), d.Acts(), d.Waits(), down, acts, waits)
	}
}

// alike asks for what the reference tells: each sector, and what both tell of themselves.
func alike(t *testing.T, d *disk.Disk, m *model) {
	t.Helper()
	counts(t, d, m.down, m.acts, len(m.pending))
	for at := -1; at <= m.size; at++ {
		got, e := d.Read(at)
		want, f := m.read(at)
		if e != f || !slices.Equal(got, want) {
			t.Errorf("sector %d: %d, error %d, want %d, %d", at, got, e, want, f)
		}
	}
}
