package disk_test

import (
	"slices"
	"testing"

	"tribunal/api"
	"tribunal/disk"
)

// step is a call of a script, on a disk and on the reference; it returns what both answer.
type step func(d *disk.Disk, m *model) (api.Errno, api.Errno)

func writing(at int, b ...byte) step {
	return func(d *disk.Disk, m *model) (api.Errno, api.Errno) { return d.Write(at, b...), m.write(at, b) }
}

func syncing(d *disk.Disk, m *model) (api.Errno, api.Errno) {
	return d.Sync(), m.sync()
}

func failing(keep uint64) step {
	return func(d *disk.Disk, m *model) (api.Errno, api.Errno) {
		d.Off(keep)
		m.off(keep)
		return 0, 0
	}
}

func starting(d *disk.Disk, m *model) (api.Errno, api.Errno) {
	d.On()
	m.down = false
	return 0, 0
}

func arming(n int, keep uint64) step {
	return func(d *disk.Disk, m *model) (api.Errno, api.Errno) {
		d.Arm(n, keep)
		m.arm(n, keep)
		return 0, 0
	}
}

// P7.1: every call, behind every sequence of up to five others, beside the reference.
func TestAllShortScripts(t *testing.T) {
	steps := []step{
		writing(0, 1), writing(1, 2, 3), writing(0), writing(2, 4), syncing,
		failing(0b00), failing(0b01), failing(0b10), starting, arming(0, all), arming(1, 0b10), arming(2, 0b01),
	}
	const length = 5
	scripts := 1
	for range length {
		scripts *= len(steps)
	}
	for number := range scripts {
		d, m := disk.New(2), &model{size: 2}
		rest := number
		for range length {
			e, f := steps[rest%len(steps)](d, m)
			if e != f {
				t.Errorf("script %d: error %d, want %d", number, e, f)
			}
			rest /= len(steps)
		}
		starting(d, m)
		alike(t, d, m)
		if t.Failed() {
			t.Fatalf("script %d", number)
		}
	}
}

// chance is a step of a long script on so many sectors.
func (r *row) chance(sectors int) step {
	switch r.next(40) {
	case 0, 1:
		return syncing
	case 2:
		return failing(r.mask())
	case 3, 4, 5:
		return starting
	case 6:
		return arming(r.next(100)-5, r.mask())
	case 7:
		return writing(r.next(sectors+20)-10, r.bytes(r.next(140))...)
	}
	return writing(r.next(sectors), r.bytes(r.next(129))...)
}

// P7.1: scripts of hundreds of calls, with more than 64 pending writes, beside the reference.
func TestLongScripts(t *testing.T) {
	r := row(7)
	most := 0
	for number := range 150 {
		sectors := 1 + r.next(9)
		d, m := disk.New(sectors), &model{size: sectors}
		for range 300 {
			if e, f := r.chance(sectors)(d, m); e != f {
				t.Errorf("script %d: error %d, want %d", number, e, f)
			}
			alike(t, d, m)
			most = max(most, d.Waits())
		}
		if t.Failed() {
			t.Fatalf("script %d", number)
		}
	}
	if most <= 64 {
		t.Errorf("never more than %d pending writes", most)
	}
}

// since is what each sector may contain behind a failure: what it contained when it was last synced, and what the writes since then stored.
type since [][][]byte

// store notes a write.
func (s since) store(at int, b []byte) {
	s[at] = append(s[at], full(b...))
}

// settle notes that each sector is permanently as it is now.
func (s since) settle(t *testing.T, d *disk.Disk) {
	for at := range s {
		b, e := d.Read(at)
		if e != api.OK {
			t.Fatalf("sector %d: %d", at, e)
		}
		s[at] = [][]byte{b}
	}
}

// check asks for one of these contents in each sector, and notes which one it is.
func (s since) check(t *testing.T, d *disk.Disk) {
	t.Helper()
	if !d.Down() {
		t.Fatal("the power has not failed")
	}
	d.On()
	for at := range s {
		b, e := d.Read(at)
		if e != api.OK || !slices.ContainsFunc(s[at], func(one []byte) bool { return slices.Equal(one, b) }) {
			t.Errorf("sector %d: %d, error %d: it was never written since the last sync", at, b, e)
		}
	}
	s.settle(t, d)
}

// write writes, and checks the disk if the power fails in that.
func (s since) write(t *testing.T, d *disk.Disk, at int, b []byte) {
	t.Helper()
	s.store(at, b)
	if d.Write(at, b...) == api.ErrDown {
		s.check(t, d)
	}
}

// sync syncs, and checks the disk if the power fails in that.
func (s since) sync(t *testing.T, d *disk.Disk) {
	t.Helper()
	if d.Sync() == api.ErrDown {
		s.check(t, d)
		return
	}
	s.settle(t, d)
}

// P7.2: behind each failure, by Off, in a write and in a sync, a sector contains what was synced last, or what a write since then stored.
func TestContentsBehindFailures(t *testing.T) {
	r := row(11)
	for range 60 {
		sectors := 1 + r.next(6)
		d, s := disk.New(sectors), make(since, sectors)
		s.settle(t, d)
		for range 500 {
			switch r.next(30) {
			case 0:
				s.sync(t, d)
			case 1:
				d.Off(r.mask())
				s.check(t, d)
			case 2:
				d.Arm(1+r.next(80), r.mask())
			default:
				s.write(t, d, r.next(sectors), r.bytes(r.next(129)))
			}
		}
	}
}

// P7.2: what was synced remains, wherever the power fails with nothing kept, and what is kept wholly is what was read before.
func TestSyncedRemains(t *testing.T) {
	const sectors, rounds = 4, 6
	for at := 1; at <= rounds*(sectors+1); at++ {
		for _, keep := range []uint64{none, all} {
			d := disk.New(sectors)
			d.Arm(at, keep)
			failedIn := 0
			for round := 1; round <= rounds && failedIn == 0; round++ {
				for i := range sectors {
					d.Write(i, byte(round), byte(i))
				}
				if d.Sync() != api.OK {
					failedIn = round
				}
			}
			if failedIn == 0 || d.Acts() != at {
				t.Fatalf("act %d: failed in round %d, %d acts", at, failedIn, d.Acts())
			}
			d.On()
			written := (at - 1) % (sectors + 1) // writes of the round before the act, which is a write, too, or the sync
			for i := range sectors {
				want := failedIn - 1
				if keep == all && i <= written {
					want = failedIn
				}
				if want == 0 {
					contains(t, d, i)
				} else {
					contains(t, d, i, byte(want), byte(i))
				}
			}
		}
	}
}
