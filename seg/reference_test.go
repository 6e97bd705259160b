package seg_test

import (
	"encoding/binary"
	"math/big"
	"slices"
	"strings"
	"testing"

	"tribunal/api"
	"tribunal/disk"
	"tribunal/seg"
)

// all and none are the masks that keep every pending write, and no one.
const (
	all  = 1<<64 - 1
	none = 0
)

// last is the greatest epoch.
const last = 1 << 62

// text is a record's encoding, as the chapter of layer 1 tells it.
func text(record string) string {
	digits := big.NewInt(int64(len(record))).Bytes()
	return string(append([]byte{byte(len(digits))}, digits...)) + record
}

// decoded are the records whose encodings are these bytes, if they are that.
func decoded(valid string) ([]string, bool) {
	var list []string
	for valid != "" {
		digits := int(valid[0])
		valid = valid[1:]
		if digits > 8 || digits > len(valid) || digits > 0 && valid[0] == 0 {
			return nil, false
		}
		size := new(big.Int).SetBytes([]byte(valid[:digits]))
		valid = valid[digits:]
		if size.Cmp(big.NewInt(int64(len(valid)))) > 0 {
			return nil, false
		}
		list = append(list, valid[:size.Int64()])
		valid = valid[size.Int64():]
	}
	return list, true
}

// texts are the encodings of records, one after the other.
func texts(list ...string) string {
	var b strings.Builder
	for _, record := range list {
		b.WriteString(text(record))
	}
	return b.String()
}

// of is a record whose encoding has so many bytes: 1, or from 3 to 257.
func of(size int) string {
	return strings.Repeat("r", max(size-2, 0))
}

// filling is records whose encodings have so many bytes, as few of them as there can be if each has up to 200.
func filling(size int) []string {
	var list []string
	for size > 0 {
		part := min(size, 200)
		// No record's encoding has two bytes.
		if part == 2 {
			part = 1
		}
		list = append(list, of(part))
		size -= part
	}
	return list
}

// model is what should be on a disk.
type model struct {
	epoch uint64
	valid string
}

// slot is what the sector of a slot begins with.
func slot(epoch, size uint64) []byte {
	return binary.BigEndian.AppendUint64(binary.BigEndian.AppendUint64(nil, epoch), size)
}

// act is a write to the sector at, or, if that is negative, a sync.
type act struct {
	at int
	b  string
}

// acts are those of a batch, as the chapter tells them.
func (m model) acts(list ...string) []act {
	var acts []act
	whole := m.valid + texts(list...)
	for from := 0; from < len(whole); from += 128 {
		if from+128 > len(m.valid) {
			acts = append(acts, act{2 + from/128, whole[from:min(from+128, len(whole))]})
		}
	}
	next := act{1, string(slot(m.epoch+1, uint64(len(whole))))}
	if m.epoch%2 == 1 {
		next.at = 0
	}
	return append(acts, act{at: -1}, next, act{at: -1})
}

// with is what is there once a batch is stored.
func (m model) with(list ...string) model {
	return model{m.epoch + 1, m.valid + texts(list...)}
}

// perform performs acts up to the first one that fails, and returns its error.
func perform(d *disk.Disk, acts []act) api.Errno {
	for _, a := range acts {
		e := api.OK
		if a.at < 0 {
			e = d.Sync()
		} else {
			e = d.Write(a.at, []byte(a.b)...)
		}
		if e != api.OK {
			return e
		}
	}
	return api.OK
}

// soiled is a disk of so many sectors, none of which is zero.
func soiled(sectors int) *disk.Disk {
	d := disk.New(sectors)
	for at := range sectors {
		d.Write(at, slices.Repeat([]byte{0xa5}, 128)...)
	}
	d.Sync()
	return d
}

// lay writes what a sector begins with, and leaves the rest of it.
func lay(d *disk.Disk, at int, b string) {
	old, _ := d.Read(at)
	d.Write(at, append([]byte(b), old[len(b):]...)...)
	d.Sync()
}

// laid is a soiled disk with these slots and valid bytes.
func laid(sectors int, zero, one []byte, valid string) *disk.Disk {
	d := soiled(sectors)
	lay(d, 0, string(zero))
	lay(d, 1, string(one))
	for from := 0; from < len(valid); from += 128 {
		lay(d, 2+from/128, valid[from:min(from+128, len(valid))])
	}
	return d
}

// disk is a soiled disk of so many sectors with what the model has; the other slot is what a batch before would have left.
func (m model) disk(sectors int) *disk.Disk {
	now, old := slot(m.epoch, uint64(len(m.valid))), slot(max(m.epoch, 1)-1, 0)
	if m.epoch%2 == 1 {
		return laid(sectors, old, now, m.valid)
	}
	return laid(sectors, now, old, m.valid)
}

// sectors are the bytes of a disk, sector by sector.
func sectors(t *testing.T, d *disk.Disk) []string {
	t.Helper()
	var list []string
	for at := range d.Size() {
		b, e := d.Read(at)
		if e != api.OK {
			t.Fatalf("sector %d: %d", at, e)
		}
		list = append(list, string(b))
	}
	return list
}

// alike asks for two disks that tell the same of themselves; if their power is off, it is switched on for that.
func alike(t *testing.T, d, want *disk.Disk) {
	t.Helper()
	if d.Down() != want.Down() || d.Acts() != want.Acts() || d.Waits() != want.Waits() {
		t.Fatalf("down %v, %d acts, %d pending, want %v, %d, %d", d.Down(), d.Acts(), d.Waits(), want.Down(), want.Acts(), want.Waits())
	}
	d.On()
	want.On()
	got := sectors(t, d)
	for at, b := range sectors(t, want) {
		if got[at] != b {
			t.Fatalf("sector %d: %x, want %x", at, got[at], b)
		}
	}
}

// opened opens a disk, and asks for OK and these records.
func opened(t *testing.T, d *disk.Disk, want ...string) *seg.Seg {
	t.Helper()
	s, list, e := seg.Open(d)
	if e != api.OK || s == nil {
		t.Fatalf("open: %d", e)
	}
	if !slices.Equal(list, want) {
		t.Fatalf("%d records, want %d: %.100q, want %.100q", len(list), len(want), list, want)
	}
	holds(t, s, d, len(texts(want...)))
	return s
}

// holds asks for so many valid bytes, and space for what the disk has beyond.
func holds(t *testing.T, s *seg.Seg, d *disk.Disk, size int) {
	t.Helper()
	if s.Len() != size || s.Room() != 128*(d.Size()-2)-size {
		t.Errorf("%d valid bytes, space for %d, want %d of %d sectors", s.Len(), s.Room(), size, d.Size())
	}
}

// rejected opens a disk, and asks for an error, and nothing else.
func rejected(t *testing.T, d *disk.Disk, want api.Errno) {
	t.Helper()
	s, list, e := seg.Open(d)
	if e != want || s != nil || len(list) != 0 {
		t.Errorf("error %d, %d records, want error %d", e, len(list), want)
	}
}

// appended appends a batch, and asks for OK.
func appended(t *testing.T, s *seg.Seg, list ...string) {
	t.Helper()
	if e := s.Append(list...); e != api.OK {
		t.Fatalf("append of %d records: %d", len(list), e)
	}
}

// refused appends a batch, and asks for an error.
func refused(t *testing.T, s *seg.Seg, want api.Errno, list ...string) {
	t.Helper()
	if e := s.Append(list...); e != want {
		t.Errorf("append of %d records: %d, want %d", len(list), e, want)
	}
}

// row is numbers that look like chance, the same ones in each run.
type row uint64

func (r *row) next(below int) int {
	*r = *r*6364136223846793005 + 1442695040888963407
	return int(uint64(*r)>>33) % below
}

// mask is a keep of any kind.
func (r *row) mask() uint64 {
	if r.next(3) == 0 {
		return []uint64{none, all, 1 << r.next(64), all ^ 1<<r.next(64)}[r.next(4)]
	}
	return uint64(r.next(1<<30))<<34 ^ uint64(r.next(1<<30))<<17 ^ uint64(r.next(1<<30))
}

// record is a record of fewer than so many bytes.
func (r *row) record(below int) string {
	b := make([]byte, r.next(below))
	for i := range b {
		b[i] = byte(r.next(256))
	}
	return string(b)
}

// batch is some records, or none.
func (r *row) batch(below int) []string {
	var list []string
	for range r.next(5) {
		list = append(list, r.record(below))
	}
	return list
}
