package seg_test

import (
	"slices"
	"strings"
	"testing"

	"tribunal/api"
	"tribunal/disk"
	"tribunal/seg"
)

// P8.3: opening again and again gives the same records, and the same space, and changes nothing on the disk.
func TestOpenAgain(t *testing.T) {
	for _, start := range starts() {
		records, _ := decoded(start.valid)
		d, want := start.disk(9), start.disk(9)
		for range 5 {
			opened(t, d, records...)
		}
		alike(t, d, want)
		d.Off(all)
		d.On()
		opened(t, d, records...)
	}
}

// P8.3: opening after each batch gives all of its records behind those before, whether one seg stores them all, or each a seg of its own.
func TestOpenAfterEachBatch(t *testing.T) {
	for _, same := range []bool{true, false} {
		d := disk.New(40)
		s := opened(t, d)
		var want []string
		for _, batch := range batches() {
			appended(t, s, batch...)
			want = append(want, batch...)
			holds(t, s, d, len(texts(want...)))
			if same {
				// Of two segs on one disk only the last one is promised anything.
				opened(t, copied(t, d), want...)
			} else {
				s = opened(t, d, want...)
			}
		}
		opened(t, d, want...)
	}
}

// copied is a disk with the same bytes.
func copied(t *testing.T, d *disk.Disk) *disk.Disk {
	t.Helper()
	c := disk.New(d.Size())
	for at, b := range sectors(t, d) {
		c.Write(at, []byte(b)...)
	}
	c.Sync()
	return c
}

// P8.3: what is read again depends on the bytes of the disk alone: a disk with the same ones gives the same records, and stores the same ones.
func TestOpenCopy(t *testing.T) {
	d := disk.New(30)
	s := opened(t, d)
	appended(t, s, "one", of(200), "")
	appended(t, s, of(128), "two")
	c := copied(t, d)
	other := opened(t, c, "one", of(200), "", of(128), "two")
	appended(t, s, "three")
	appended(t, other, "three")
	if !slices.Equal(sectors(t, d), sectors(t, c)) {
		t.Error("other bytes")
	}
}

// P8.3: a batch that is rejected, for its length, for want of space, or for the epoch, changes nothing: no act is performed, no byte is changed, and what follows is stored as if it had never come.
func TestRejectedChangesNothing(t *testing.T) {
	long := strings.Repeat("l", api.MaxRecord+1)
	rejections := []struct {
		batch []string
		want  api.Errno
	}{
		{[]string{long}, api.ErrLong}, {[]string{"a", long}, api.ErrLong}, {[]string{long, "a"}, api.ErrLong},
		{[]string{strings.Repeat("f", 3000)}, api.ErrFull}, {slices.Repeat([]string{of(128)}, 30), api.ErrFull}, {slices.Repeat([]string{""}, 2000), api.ErrFull},
	}
	for _, start := range starts() {
		records, _ := decoded(start.valid)
		for _, batch := range batches() {
			d, want := start.disk(11), start.disk(11)
			s := opened(t, d, records...)
			// What is armed must not be counted down by them.
			d.Arm(len(start.acts(batch...)), none)
			want.Arm(len(start.acts(batch...)), none)
			for _, one := range rejections {
				refused(t, s, one.want, one.batch...)
				holds(t, s, d, len(start.valid))
			}
			refused(t, s, api.ErrDown, batch...)
			perform(want, start.acts(batch...))
			alike(t, d, want)
			s = opened(t, d, records...)
			for _, one := range rejections {
				refused(t, s, one.want, one.batch...)
			}
			alike(t, d, want)
			appended(t, s, batch...)
			perform(want, start.acts(batch...))
			alike(t, d, want)
			opened(t, d, append(records, batch...)...)
		}
	}
}

// P8.3: a disk that cannot be opened is not changed by trying, and can be opened once it is what it should be.
func TestRejectedOpenChangesNothing(t *testing.T) {
	valid := texts("one", of(130))
	size := uint64(len(valid))
	for _, zero := range [][]byte{slot(last+1, size), slot(5, size+1), slot(5, 2), slot(5, 257), slot(all, all)} {
		d, want := laid(4, zero, slot(4, size), valid), laid(4, zero, slot(4, size), valid)
		for range 3 {
			rejected(t, d, api.ErrForm)
		}
		alike(t, d, want)
		lay(d, 0, string(slot(5, size)))
		s := opened(t, d, "one", of(130))
		appended(t, s, "two")
		opened(t, d, "one", of(130), "two")
	}
}

// P8.3: a seg that has met an error, and is asked on and on, changes nothing any more, and tells what it told before.
func TestErrorChangesNothing(t *testing.T) {
	start := model{3, texts("one", of(100))}
	for n := 1; n <= len(start.acts("two")); n++ {
		for _, keep := range []uint64{none, all} {
			d := start.disk(5)
			s := opened(t, d, "one", of(100))
			d.Arm(n, keep)
			refused(t, s, api.ErrDown, "two")
			d.On()
			acts, before := d.Acts(), sectors(t, d)
			_, list, _ := seg.Open(d)
			for _, batch := range batches() {
				refused(t, s, api.ErrDown, batch...)
				holds(t, s, d, len(start.valid))
			}
			if d.Acts() != acts || d.Waits() != 0 || !slices.Equal(sectors(t, d), before) {
				t.Errorf("act %d: the disk was changed", n)
			}
			opened(t, d, list...)
		}
	}
}

// P8.3: asking for Len and Room changes nothing.
func TestAskingChangesNothing(t *testing.T) {
	d := model{3, texts("one")}.disk(5)
	s := opened(t, d, "one")
	acts, before := d.Acts(), sectors(t, d)
	for range 10 {
		holds(t, s, d, 5)
	}
	if d.Acts() != acts || d.Waits() != 0 || !slices.Equal(sectors(t, d), before) {
		t.Error("the disk was changed")
	}
	opened(t, d, "one")
}
