package op_test

import (
	"slices"
	"strings"
	"testing"

	"tribunal/api"
	"tribunal/op"
)

// P9.1: Compare of names that are equal.
func TestCompareOfEqualNames(t *testing.T) {
	for _, x := range append(refs(), rising(40)...) {
		if c := op.Compare(x, x); c != 0 {
			t.Errorf("%x: %d", x, c)
		}
	}
}

// P9.1: Compare of names that differ in one byte, wherever it is, either way round; what is above 127 is greater.
func TestCompareByOneByte(t *testing.T) {
	for _, base := range []api.Id{{}, filled(0x7f), filled(0x80), filled(0xff)} {
		for at := range 32 {
			for _, c := range []struct{ less, greater byte }{{0, 1}, {1, 2}, {0, 0xff}, {0x7f, 0x80}, {1, 0x81}, {0x80, 0x81}, {0xfe, 0xff}} {
				a, b := with(base, at, c.less), with(base, at, c.greater)
				if op.Compare(a, b) != -1 || op.Compare(b, a) != 1 {
					t.Errorf("%x and %x: %d, %d", a, b, op.Compare(a, b), op.Compare(b, a))
				}
			}
		}
	}
}

// P9.1: Compare goes by the first byte that differs, whatever follows it.
func TestCompareByFirstDifference(t *testing.T) {
	for first := range 31 {
		for later := first + 1; later < 32; later++ {
			a := with(with(filled(7), first, 0x7f), later, 0xff)
			b := with(with(filled(7), first, 0x80), later, 0)
			if op.Compare(a, b) != -1 || op.Compare(b, a) != 1 {
				t.Errorf("%x and %x: %d, %d", a, b, op.Compare(a, b), op.Compare(b, a))
			}
		}
	}
}

// P9.1: GoodDraft of each kind, with a Ref and without, with a Value and without.
func TestGoodDraftOfKinds(t *testing.T) {
	for _, c := range []struct {
		kind                           int
		plain, value, ref, refAndValue bool
	}{
		{1, true, true, false, false},
		{2, true, true, false, false},
		{3, true, true, false, false},
		{4, true, true, true, true},
		{5, false, false, true, false},
		{0, false, false, false, false},
		{6, false, false, false, false},
		{7, false, false, false, false},
		{-1, false, false, false, false},
		{-4, false, false, false, false},
		{-5, false, false, false, false},
		{256 + 4, false, false, false, false},
		{1<<32 + 4, false, false, false, false},
		{bottom, false, false, false, false},
		{bottom + 4, false, false, false, false},
		{top, false, false, false, false},
	} {
		for _, ref := range refs()[1:] {
			for i, d := range []api.Draft{{}, {Value: "v"}, {Ref: ref}, {Ref: ref, Value: "v"}} {
				d.Kind, d.Key = c.kind, "k"
				want := []bool{c.plain, c.value, c.ref, c.refAndValue}[i]
				if op.GoodDraft(d) != want {
					t.Errorf("%x: %v", d, !want)
				}
			}
		}
	}
}

// P9.1: GoodDraft of Keys of 1 to 16 bytes, and of others.
func TestGoodDraftOfKeys(t *testing.T) {
	for _, d := range goodDrafts() {
		for _, size := range []int{0, 1, 2, 8, 15, 16, 17, 18, 32, 255, 256, 257, 1 << 16, 1<<18 + 1} {
			for _, b := range []string{"k", "\x00", "\xff"} {
				d.Key = strings.Repeat(b, size)
				if want := size >= 1 && size <= 16; op.GoodDraft(d) != want {
					t.Errorf("kind %d, a Key of %d bytes: %v", d.Kind, size, !want)
				}
			}
		}
	}
}

// P9.1: GoodDraft of Values of up to 64 bytes, and of more; for Erase of none alone.
func TestGoodDraftOfValues(t *testing.T) {
	for _, d := range goodDrafts() {
		for _, size := range []int{0, 1, 2, 63, 64, 65, 66, 128, 255, 256, 257, 256 + 64, 1 << 16, 1<<18 + 1} {
			for _, b := range []string{"v", "\x00", "\xff"} {
				d.Value = strings.Repeat(b, size)
				if want := size <= 64 && (d.Kind != 5 || size == 0); op.GoodDraft(d) != want {
					t.Errorf("kind %d, a Value of %d bytes: %v", d.Kind, size, !want)
				}
			}
		}
	}
}

// P9.1: GoodDraft of Refs of which a single byte, wherever it is, is not zero.
func TestGoodDraftOfRefs(t *testing.T) {
	for at := range 32 {
		for _, b := range []byte{1, 0x7f, 0x80, 0xff} {
			for kind := 1; kind <= 5; kind++ {
				d := api.Draft{Kind: kind, Key: "k", Ref: with(api.Id{}, at, b)}
				if want := kind >= 4; op.GoodDraft(d) != want {
					t.Errorf("%x: %v", d, !want)
				}
			}
		}
	}
}

// P9.1: GoodDraft of all drafts, beside the reference; those that the tests take for valid are, the others are not.
func TestGoodDraftOfAll(t *testing.T) {
	counts := map[bool]int{}
	for _, d := range allDrafts() {
		want := validDraft(d)
		if op.GoodDraft(d) != want {
			t.Errorf("%x: %v", d, !want)
		}
		counts[want]++
	}
	if counts[true] < 100 || counts[false] < 100 {
		t.Errorf("%v", counts)
	}
	for _, d := range goodDrafts() {
		if !op.GoodDraft(d) {
			t.Errorf("%x is not valid", d)
		}
	}
	for _, d := range badDrafts() {
		if op.GoodDraft(d) {
			t.Errorf("%x is valid", d)
		}
	}
}

// P9.1: Good of each author, and of numbers that are none.
func TestGoodOfAuthors(t *testing.T) {
	for _, o := range goodOps() {
		for _, author := range []int{bottom, -256, -5, -4, -1, 0, 1, 2, 3, 4, 5, 6, 31, 256, 1 << 32, top} {
			o.Author = author
			if want := author >= 0 && author <= 4; op.Good(o) != want {
				t.Errorf("author %d: %v", author, !want)
			}
		}
	}
}

// P9.1: Good of up to 32 Preds, and of more.
func TestGoodOfPreds(t *testing.T) {
	for _, d := range goodDrafts() {
		for count := range 70 {
			o := api.Op{Draft: d, Depth: 1, Preds: rising(count)}
			if count > 0 {
				o.Depth = 2
			}
			if want := count <= 32; op.Good(o) != want {
				t.Errorf("%d Preds: %v", count, !want)
			}
		}
	}
	for _, preds := range [][]api.Id{{{}}, {filled(0xff)}, {{}, filled(0xff)}, {filled(0x7f), filled(0x80)}} {
		if o := (api.Op{Draft: goodDrafts()[0], Depth: 2, Preds: preds}); !op.Good(o) {
			t.Errorf("%x is not valid", o)
		}
	}
}

// P9.1: Good of Preds of which two are equal, wherever they are.
func TestGoodOfEqualPreds(t *testing.T) {
	for count := 2; count <= 33; count++ {
		for i := range count {
			for k := range i {
				preds := rising(count)
				preds[i] = preds[k]
				if op.Good(api.Op{Draft: goodDrafts()[0], Depth: 2, Preds: preds}) {
					t.Errorf("%d Preds, %d as %d: valid", count, i, k)
				}
			}
		}
	}
}

// P9.1: Good of Preds of which two descend, wherever they are, by whichever byte.
func TestGoodOfDescendingPreds(t *testing.T) {
	for count := 2; count <= 33; count++ {
		for i := range count {
			for k := range i {
				preds := rising(count)
				preds[i], preds[k] = preds[k], preds[i]
				if op.Good(api.Op{Draft: goodDrafts()[0], Depth: 2, Preds: preds}) {
					t.Errorf("%d Preds, %d and %d exchanged: valid", count, i, k)
				}
			}
		}
		preds := rising(count)
		slices.Reverse(preds)
		if op.Good(api.Op{Draft: goodDrafts()[0], Depth: 2, Preds: preds}) {
			t.Errorf("%d Preds, the other way round: valid", count)
		}
	}
	for at := range 32 {
		less, greater := with(filled(9), at, 0x7f), with(filled(9), at, 0x80)
		for _, c := range []struct {
			preds []api.Id
			want  bool
		}{{[]api.Id{less, greater}, true}, {[]api.Id{greater, less}, false}} {
			if op.Good(api.Op{Draft: goodDrafts()[0], Depth: 2, Preds: c.preds}) != c.want {
				t.Errorf("%x: %v", c.preds, !c.want)
			}
		}
	}
}

// P9.1: Good of all depths: 1 without Preds, above it with some.
func TestGoodOfDepths(t *testing.T) {
	for _, count := range []int{0, 1, 2, 32} {
		for _, depth := range []int{bottom, bottom + 1, -256, -2, -1, 0, 1, 2, 3, 32, 33, 255, 256, 257, 1 << 32, 1<<32 + 1, top} {
			o := api.Op{Draft: goodDrafts()[0], Depth: depth, Preds: rising(count)}
			want := depth == 1
			if count > 0 {
				want = depth > 1
			}
			if op.Good(o) != want {
				t.Errorf("depth %d, %d Preds: %v", depth, count, !want)
			}
		}
	}
}

// P9.1: Good of drafts that are valid, and of such that are not.
func TestGoodOfDrafts(t *testing.T) {
	for _, d := range append(append(allDrafts(), goodDrafts()...), badDrafts()...) {
		for _, o := range []api.Op{{Draft: d, Author: 3, Depth: 1}, {Draft: d, Author: 3, Depth: 2, Preds: rising(2)}} {
			if want := validDraft(d); op.Good(o) != want {
				t.Errorf("%x: %v", o, !want)
			}
		}
	}
}

// P9.1: Good of all operations, beside the reference; those that the tests take for valid are, the others are not.
func TestGoodOfAll(t *testing.T) {
	counts := map[bool]int{}
	for _, o := range allOps() {
		want := validOp(o)
		if op.Good(o) != want {
			t.Errorf("%x: %v", o, !want)
		}
		counts[want]++
	}
	if counts[true] < 50 || counts[false] < 100 {
		t.Errorf("%v", counts)
	}
	for _, o := range goodOps() {
		if !op.Good(o) {
			t.Errorf("%x is not valid", o)
		}
	}
	for _, o := range badOps() {
		if op.Good(o) {
			t.Errorf("%x is valid", o)
		}
	}
}
