package op_test

import (
	"slices"
	"testing"

	"tribunal/api"
	"tribunal/op"
)

// roomy are names with spare capacity behind them, beside the whole of it.
func roomy(count int) (names, whole []api.Id) {
	whole = append(rising(count), filled(0x11), filled(0x22), filled(0x33))
	return whole[:count], whole
}

// spoil changes all names that a slice can reach.
func spoil(names []api.Id) {
	for i := range names[:cap(names)] {
		names[:cap(names)][i] = filled(0x5a)
	}
}

// P9.1, rule 3: the Preds of an argument, and what lies behind them, are not changed by any call.
func TestPredsNotModified(t *testing.T) {
	for _, count := range []int{0, 1, 2, 31, 32, 33} {
		for _, depth := range []int{1, 2} {
			names, whole := roomy(count)
			slices.Reverse(names)
			before := slices.Clone(whole)
			o := api.Op{Draft: goodDrafts()[0], Depth: depth, Preds: names}
			op.Good(o)
			op.Text(o)
			op.Name(o)
			op.Batch(o, o)
			if !slices.Equal(whole, before) {
				t.Errorf("%d Preds: %x", count, whole)
			}
		}
	}
}

// P9.1, rule 3: the list of operations, and what lies behind it, is not changed.
func TestListNotModified(t *testing.T) {
	for count := range len(goodOps()) {
		whole := goodOps()
		op.Batch(whole[:count]...)
		if !slices.EqualFunc(whole, goodOps(), same) {
			t.Errorf("%d operations: %x", count, whole)
		}
	}
}

// P9.1, rule 3: results share no memory: what is done to the Preds of one is not seen in another, nor in what is read later.
func TestPredsOfResults(t *testing.T) {
	for _, count := range []int{1, 2, 31, 32} {
		o := api.Op{Draft: goodDrafts()[0], Depth: 2, Preds: rising(count)}
		s := op.Text(o)
		a, _ := op.Read(s)
		b, _ := op.Read(s)
		spoil(a.Preds)
		if c, e := op.Read(s); e != api.OK || !same(b, o) || !same(c, o) {
			t.Errorf("%d Preds: %x, %x, %d", count, b, c, e)
		}
		list := slices.Repeat([]api.Op{o}, 8)
		for at := range list {
			s := op.Batch(list...)
			got, _ := op.ReadBatch(s)
			again, _ := op.ReadBatch(s)
			spoil(got[at].Preds)
			got[at].Preds = append(got[at].Preds, api.Id{})
			for i := range got {
				if i != at && !same(got[i], o) || !same(again[i], o) {
					t.Errorf("%d Preds: operation %d, when %d is changed: %x, %x", count, i, at, got[i], again[i])
				}
			}
		}
	}
}

// P9.1, rule 4: a call returns the same each time, whatever was asked in between.
func TestSameAgain(t *testing.T) {
	all := append(goodOps(), badOps()...)
	texts, names := make([]string, len(all)), make([]api.Id, len(all))
	for i, o := range all {
		texts[i], names[i] = op.Text(o), op.Name(o)
	}
	for i, o := range all {
		op.Read(texts[len(all)-1-i])
		if op.Text(o) != texts[i] || op.Name(o) != names[i] {
			t.Errorf("%x", o)
		}
	}
}

// P9.1, rule 5: nil and empty Preds, and nil and empty lists, are the same.
func TestNilAndEmpty(t *testing.T) {
	bare := api.Op{Draft: goodDrafts()[0], Depth: 1}
	empty := bare
	empty.Preds = []api.Id{}
	if !op.Good(empty) || op.Text(empty) != op.Text(bare) || op.Name(empty) != op.Name(bare) || op.Batch(empty) != op.Batch(bare) {
		t.Errorf("%x and %x", empty, bare)
	}
	if op.Batch([]api.Op{}...) != op.Batch(nil...) {
		t.Errorf("%x and %x", op.Batch([]api.Op{}...), op.Batch(nil...))
	}
}
