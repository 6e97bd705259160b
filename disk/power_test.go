package disk_test

import (
	"testing"

	"tribunal/api"
	"tribunal/disk"
)

// masks are keeps of all kinds.
func masks() []uint64 {
	list := []uint64{none, all, 0b10, 0b101, 0b0110, 0x5555555555555555, 0xaaaaaaaaaaaaaaaa, 1<<63 | 1, 1<<63 - 1, all - 1, 0xffffffff, 0xffffffff00000000}
	for bit := range 64 {
		list = append(list, 1<<bit, all^1<<bit)
	}
	return list
}

// kept tells whether a mask keeps write i, as the chapter says it.
func kept(keep uint64, i int) bool {
	bit := i % 64
	for range bit {
		keep /= 2
	}
	return keep%2 == 1
}

// P7.1: the chapter's examples.
func TestExamples(t *testing.T) {
	d := disk.New(1)
	wrote(t, d, 0, 1)
	d.Off(0)
	d.On()
	contains(t, d, 0)
	wrote(t, d, 0, 1)
	d.Off(1)
	d.On()
	contains(t, d, 0, 1)
}

// P7.1: Off keeps write i if the bit i modulo 64 is set, each write to a sector of its own, for no, a few, 64 and more pending writes.
func TestOffKeeps(t *testing.T) {
	for _, count := range []int{0, 1, 2, 3, 5, 63, 64, 65, 66, 127, 128, 129, 200} {
		for _, keep := range masks() {
			d := disk.New(count + 1)
			for at := range count {
				wrote(t, d, at, 0xee, byte(at))
			}
			synced(t, d)
			for at := range count {
				wrote(t, d, at, 0xdd, byte(at))
			}
			counts(t, d, false, 2*count+1, count)
			d.Off(keep)
			counts(t, d, true, 2*count+1, 0)
			d.On()
			counts(t, d, false, 2*count+1, 0)
			for at := range count {
				if kept(keep, at) {
					contains(t, d, at, 0xdd, byte(at))
				} else {
					contains(t, d, at, 0xee, byte(at))
				}
			}
			contains(t, d, count)
		}
	}
}

// P7.1: of the writes to one sector that are kept the last one counts, as they are applied in their order.
func TestOffKeepsInOrder(t *testing.T) {
	for _, count := range []int{1, 2, 3, 64, 65, 130} {
		for _, keep := range masks() {
			d := disk.New(2)
			wrote(t, d, 1, 0xff)
			synced(t, d)
			last := 0xff
			for i := range count {
				wrote(t, d, 1, byte(i))
				if kept(keep, i) {
					last = i
				}
			}
			contains(t, d, 1, byte(count-1))
			d.Off(keep)
			d.On()
			contains(t, d, 1, byte(last))
			contains(t, d, 0)
		}
	}
}

// P7.1: pending writes are counted from 0 anew behind a sync, and behind a failure.
func TestCountedAnew(t *testing.T) {
	d := disk.New(4)
	wrote(t, d, 0, 1)
	wrote(t, d, 1, 2)
	synced(t, d)
	wrote(t, d, 2, 3)
	d.Off(0b001)
	d.On()
	contains(t, d, 2, 3)
	wrote(t, d, 3, 4)
	d.Off(0b001)
	d.On()
	contains(t, d, 3, 4)
	wrote(t, d, 3, 5)
	d.Off(0b010)
	d.On()
	for at := range 4 {
		contains(t, d, at, byte(at+1))
	}
}

// P7.1: what a failure kept is permanent, and what it did not keep never comes back.
func TestFailureIsFinal(t *testing.T) {
	d := disk.New(2)
	wrote(t, d, 0, 1)
	wrote(t, d, 1, 2)
	d.Off(0b01)
	d.On()
	d.Off(all)
	d.On()
	contains(t, d, 0, 1)
	contains(t, d, 1)
	d.Off(none)
	d.On()
	contains(t, d, 0, 1)
	contains(t, d, 1)
	synced(t, d)
	contains(t, d, 0, 1)
	contains(t, d, 1)
}

// P7.1: writes and syncs that are refused while the power is off are neither pending nor counted, and change nothing.
func TestRefusedWhileOff(t *testing.T) {
	d := disk.New(2)
	wrote(t, d, 0, 1)
	synced(t, d)
	d.Off(none)
	for range 3 {
		if d.Write(0, 9) != api.ErrDown || d.Write(1) != api.ErrDown || d.Sync() != api.ErrDown {
			t.Error("written or synced without power")
		}
		counts(t, d, true, 2, 0)
	}
	if d.Size() != 2 {
		t.Errorf("%d sectors", d.Size())
	}
	d.On()
	counts(t, d, false, 2, 0)
	contains(t, d, 0, 1)
	contains(t, d, 1)
}

// P7.1: Off does nothing while the power is off: what is armed meanwhile remains so.
func TestOffWhileOff(t *testing.T) {
	d := disk.New(2)
	wrote(t, d, 0, 1)
	d.Off(none)
	d.Off(all)
	counts(t, d, true, 1, 0)
	d.Arm(2, 0b10)
	d.Off(all)
	counts(t, d, true, 1, 0)
	d.On()
	contains(t, d, 0)
	wrote(t, d, 0, 2)
	if e := d.Write(1, 3); e != api.ErrDown {
		t.Errorf("act 2: %d", e)
	}
	counts(t, d, true, 3, 0)
	d.On()
	contains(t, d, 0)
	contains(t, d, 1, 3)
}

// P7.1: On does nothing while the power is on: what is pending and what is armed remain so.
func TestOnWhileOn(t *testing.T) {
	d := disk.New(2)
	d.On()
	wrote(t, d, 0, 1)
	d.Arm(2, 0b01)
	d.On()
	counts(t, d, false, 1, 1)
	contains(t, d, 0, 1)
	wrote(t, d, 1, 2)
	d.On()
	if e := d.Sync(); e != api.ErrDown {
		t.Errorf("act 2: %d", e)
	}
	d.On()
	d.On()
	counts(t, d, false, 3, 0)
	contains(t, d, 0, 1)
	contains(t, d, 1)
}

// P7.1: Arm lets the power fail in the n-th act from then on, which is a write: this is one of the pending ones, and the mask tells of it, too.
func TestArmedWrite(t *testing.T) {
	for _, n := range []int{1, 2, 3, 10, 64, 65, 66, 130} {
		for _, keep := range masks() {
			d := disk.New(n + 1)
			wrote(t, d, n, 7)
			synced(t, d)
			d.Arm(n, keep)
			for at := range n - 1 {
				wrote(t, d, at, byte(at+1))
				counts(t, d, false, at+3, at+1)
			}
			if e := d.Write(n-1, byte(n)); e != api.ErrDown {
				t.Errorf("act %d: %d", n, e)
			}
			counts(t, d, true, n+2, 0)
			d.On()
			for at := range n {
				if kept(keep, at) {
					contains(t, d, at, byte(at+1))
				} else {
					contains(t, d, at)
				}
			}
			contains(t, d, n, 7)
		}
	}
}

// P7.1: the sync in which the power fails is not performed: what was pending is kept or not, as the mask tells.
func TestArmedSync(t *testing.T) {
	for _, n := range []int{1, 2, 3, 10, 65, 66} {
		for _, keep := range masks() {
			d := disk.New(n + 1)
			wrote(t, d, n, 9)
			d.Arm(n, keep)
			for at := range n - 1 {
				wrote(t, d, at, byte(at+1))
			}
			if e := d.Sync(); e != api.ErrDown {
				t.Errorf("act %d: %d", n, e)
			}
			counts(t, d, true, n+1, 0)
			d.On()
			// The write before Arm is pending write 0.
			if kept(keep, 0) {
				contains(t, d, n, 9)
			} else {
				contains(t, d, n)
			}
			for at := range n - 1 {
				if kept(keep, at+1) {
					contains(t, d, at, byte(at+1))
				} else {
					contains(t, d, at)
				}
			}
		}
	}
}

// P7.1: syncs before the armed act are performed, and count as acts.
func TestArmedBehindSyncs(t *testing.T) {
	d := disk.New(2)
	d.Arm(4, none)
	wrote(t, d, 0, 1)
	synced(t, d)
	synced(t, d)
	if e := d.Write(1, 2); e != api.ErrDown {
		t.Errorf("act 4: %d", e)
	}
	counts(t, d, true, 4, 0)
	d.On()
	contains(t, d, 0, 1)
	contains(t, d, 1)
}

// P7.1: calls that are no acts don't bring the failure nearer: what is refused, reads, and what is asked.
func TestNoActsBesideArmed(t *testing.T) {
	d := disk.New(2)
	d.Arm(2, all)
	for range 5 {
		d.Write(2, 1)
		d.Write(-1, 1)
		d.Write(0, make([]byte, 129)...)
		d.Read(0)
		d.Read(2)
		d.On()
		counts(t, d, false, 0, 0)
	}
	wrote(t, d, 0, 1)
	d.Write(0, make([]byte, 129)...)
	d.Write(2)
	counts(t, d, false, 1, 1)
	if e := d.Write(1, 2); e != api.ErrDown {
		t.Errorf("act 2: %d", e)
	}
	// Nor do writes and syncs while the power is off.
	d.Arm(1, none)
	for range 5 {
		d.Write(0, 9)
		d.Sync()
		counts(t, d, true, 2, 0)
	}
	d.On()
	contains(t, d, 0, 1)
	contains(t, d, 1, 2)
	if e := d.Write(0, 9); e != api.ErrDown {
		t.Errorf("act 1: %d", e)
	}
	d.On()
	contains(t, d, 0, 1)
	counts(t, d, false, 3, 0)
}

// P7.1: armed with a number below 1, the power fails in no act.
func TestArmedWithNone(t *testing.T) {
	for _, n := range []int{0, -1, -2, -64, -1 << 32, bottom + 1, bottom} {
		d := disk.New(3)
		d.Arm(n, all)
		for i := range 200 {
			wrote(t, d, i%3, byte(i))
			synced(t, d)
		}
		counts(t, d, false, 400, 0)
	}
}

// P7.1: armed with a great number, the power fails in no act before it.
func TestArmedFarAhead(t *testing.T) {
	for _, n := range []int{401, 1 << 31, 1 << 32, 1<<32 + 1, top - 1, top} {
		d := disk.New(3)
		d.Arm(n, all)
		for i := range 200 {
			wrote(t, d, i%3, byte(i))
			synced(t, d)
		}
		counts(t, d, false, 400, 0)
	}
}

// P7.1: a later Arm replaces an earlier one, its number and its mask, whether it is nearer, farther or none.
func TestLaterArm(t *testing.T) {
	for _, first := range []int{-1, 0, 1, 2, 3, 4, 5, 9} {
		for _, second := range []int{-1, 0, 1, 2, 3, 4, 5, 9} {
			for before := range 3 {
				if first > 0 && before >= first {
					continue
				}
				d := disk.New(10)
				d.Arm(first, all)
				for at := range before {
					wrote(t, d, at, 1)
				}
				d.Arm(second, none)
				failsIn(t, d, second, before)
			}
		}
	}
}

// failsIn writes until the power fails, and asks for that in the n-th act, with nothing kept; in none for an n below 1.
func failsIn(t *testing.T, d *disk.Disk, n, before int) {
	t.Helper()
	for i := 1; i <= 10; i++ {
		e := d.Write(9, 2)
		if i != n && e != api.OK || i == n && e != api.ErrDown {
			t.Errorf("armed with %d behind %d acts: act %d: %d", n, before, i, e)
		}
		if e != api.OK {
			break
		}
	}
	if d.Down() != (n > 0) {
		t.Errorf("armed with %d: down %v", n, d.Down())
	}
	d.On()
	if n > 0 {
		for at := range 10 {
			contains(t, d, at)
		}
	}
}

// P7.1: nothing is armed any more once the power has failed, by itself or by Off.
func TestArmedOnce(t *testing.T) {
	for _, byOff := range []bool{false, true} {
		d := disk.New(3)
		d.Arm(2, all)
		wrote(t, d, 0, 1)
		if byOff {
			d.Off(all)
		} else if e := d.Sync(); e != api.ErrDown {
			t.Errorf("act 2: %d", e)
		}
		d.On()
		acts := d.Acts()
		for i := range 100 {
			wrote(t, d, i%3, byte(i))
		}
		synced(t, d)
		counts(t, d, false, acts+101, 0)
	}
}

// P7.1: Off goes by its own mask, not by that of an Arm; a later failure by neither of them.
func TestMaskOfOff(t *testing.T) {
	d := disk.New(2)
	d.Arm(5, none)
	wrote(t, d, 0, 1)
	wrote(t, d, 1, 2)
	d.Off(0b10)
	d.On()
	contains(t, d, 0)
	contains(t, d, 1, 2)
	d.Arm(2, 0b01)
	wrote(t, d, 0, 3)
	if e := d.Write(1, 4); e != api.ErrDown {
		t.Errorf("act 2: %d", e)
	}
	d.On()
	contains(t, d, 0, 3)
	contains(t, d, 1, 2)
}

// P7.1: acts go on being counted over all failures.
func TestActsOverFailures(t *testing.T) {
	d := disk.New(1)
	for i := range 50 {
		wrote(t, d, 0, byte(i))
		synced(t, d)
		d.Arm(1, none)
		if e := d.Write(0, 0xff); e != api.ErrDown {
			t.Errorf("armed: %d", e)
		}
		counts(t, d, true, 3*i+3, 0)
		d.On()
		contains(t, d, 0, byte(i))
	}
}
