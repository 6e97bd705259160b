package op_test

import (
	"encoding/hex"
	"slices"
	"strings"
	"testing"

	"tribunal/api"
	"tribunal/op"
	"tribunal/pack"
)

// zeros are so many zero bytes, as hexadecimal digits.
func zeros(count int) string {
	return strings.Repeat("00", count)
}

// P9.1: DraftText, beside bytes that are written out.
func TestDraftTextKnown(t *testing.T) {
	for _, c := range []struct {
		d    api.Draft
		want string
	}{
		{api.Draft{}, "0104" + "010100" + "00" + "00" + "0120" + zeros(32)},
		{api.Draft{Kind: 3, Key: "k", Value: "v"}, "0104" + "01020103" + "01016b" + "010176" + "0120" + zeros(32)},
		{api.Draft{Kind: 1, Key: "set"}, "0104" + "01020101" + "0103736574" + "00" + "0120" + zeros(32)},
		{api.Draft{Kind: 5, Key: "k", Ref: with(api.Id{9}, 31, 0xff)}, "0104" + "01020105" + "01016b" + "00" + "0120" + "09" + zeros(30) + "ff"},
		{api.Draft{Kind: -5, Key: "k"}, "0104" + "010100" + "01016b" + "00" + "0120" + zeros(32)},
		{api.Draft{Kind: 258, Value: "\x00"}, "0104" + "0103020102" + "00" + "010100" + "0120" + zeros(32)},
	} {
		if got := hex.EncodeToString([]byte(op.DraftText(c.d))); got != c.want {
			t.Errorf("%x: %s, want %s", c.d, got, c.want)
		}
	}
}

// P9.1: Text, beside bytes that are written out.
func TestTextKnown(t *testing.T) {
	empty := "0129" + "0104" + "010100" + "00" + "00" + "0120" + zeros(32)
	for _, c := range []struct {
		o    api.Op
		want string
	}{
		{api.Op{}, "0104" + "010100" + "010100" + "00" + empty},
		{api.Op{Author: -1, Depth: bottom}, "0104" + "010100" + "010100" + "00" + empty},
		{
			api.Op{Draft: api.Draft{Kind: 5, Key: "k", Ref: filled(0xff)}, Author: 2, Depth: 258, Preds: []api.Id{{1}}},
			"0104" + "01020102" + "0103020102" + "0120" + "01" + zeros(31) + "012c" + "0104" + "01020105" + "01016b" + "00" + "0120" + strings.Repeat("ff", 32),
		},
		{
			api.Op{Author: 1, Depth: 2, Preds: []api.Id{filled(0xff), {}}},
			"0104" + "01020101" + "01020102" + "0140" + strings.Repeat("ff", 32) + zeros(32) + empty,
		},
	} {
		if got := hex.EncodeToString([]byte(op.Text(c.o))); got != c.want {
			t.Errorf("%x: %s, want %s", c.o, got, c.want)
		}
	}
}

// P9.1: Name, beside digests that another program computed.
func TestNameKnown(t *testing.T) {
	var many []api.Id
	for i := range 40 {
		many = append(many, api.Id{byte(i)})
	}
	for _, c := range []struct {
		o    api.Op
		want string
	}{
		{api.Op{}, "6e899dd76e77d4e5b0a0b6819810f8e07760088f94a56a5f0bd8e0e378646aa6"},
		{api.Op{Draft: api.Draft{Kind: -1}, Author: bottom, Depth: -7}, "6e899dd76e77d4e5b0a0b6819810f8e07760088f94a56a5f0bd8e0e378646aa6"},
		{api.Op{Draft: api.Draft{Kind: 1, Key: "set", Value: "x"}, Depth: 1}, "3a67dcb80ef12c61bdbf7fcd0e3a2fd893faa7014c95ce11365d0697f586a175"},
		{api.Op{Draft: api.Draft{Kind: 4, Key: "list", Value: "x", Ref: api.Id{1}}, Author: 2, Depth: 7, Preds: []api.Id{{1}, {2}}}, "b977128902cd2be6fea2859cd8e98770f116379ecc9ee4a3e4c36fc01c35803e"},
		{api.Op{Draft: api.Draft{Kind: 5, Key: "\x00", Ref: with(api.Id{}, 31, 1)}, Author: 4, Depth: top, Preds: []api.Id{filled(0xff)}}, "06558edaa52aff3e8fa527577473043912ba927847b93c2488abda58a641af62"},
		{api.Op{Draft: api.Draft{Key: strings.Repeat("k", 17), Value: strings.Repeat("v", 65), Ref: filled(0xff)}, Preds: []api.Id{{2}, {1}, {1}}}, "91d3a1c4fd3e90680e56c4ed172f3a7b836ed6504bb9d60f0de4872a4266c475"},
		{api.Op{Draft: api.Draft{Kind: 3, Key: strings.Repeat("k", 16), Value: strings.Repeat("v", 64)}, Author: 1, Depth: 1}, "cf14495f1a038978199b2aafac0ca70c0b63f7311cdb7395eb90b60ef8c08cf8"},
		{api.Op{Draft: api.Draft{Kind: 258}, Author: 300, Depth: 256, Preds: many}, "0dc13fb61b08cb823e06e563ee041e5a01a3b521dc11b23685e5147ea6338989"},
	} {
		if got := op.Name(c.o); hex.EncodeToString(got[:]) != c.want {
			t.Errorf("%x: %x, want %s", c.o, got, c.want)
		}
	}
}

// P9.1: DraftText of all drafts, valid and not, beside the encoding spelt out.
func TestDraftText(t *testing.T) {
	for _, d := range append(append(allDrafts(), goodDrafts()...), badDrafts()...) {
		if got, want := op.DraftText(d), draftBytes(d); got != want {
			t.Errorf("%x: %x, want %x", d, got, want)
		}
	}
}

// P9.1: Text and Name of all operations, valid and not, beside the encoding spelt out.
func TestTextAndName(t *testing.T) {
	for _, o := range append(append(allOps(), goodOps()...), badOps()...) {
		if got, want := op.Text(o), opBytes(o); got != want {
			t.Errorf("%x: %x, want %x", o, got, want)
		}
		if got, want := op.Name(o), nameOf(o); got != want {
			t.Errorf("%x: %x, want %x", o, got, want)
		}
	}
}

// P9.1: negative numbers count as 0, in Kind, Author and Depth alike, each by itself.
func TestNegativeNumbers(t *testing.T) {
	base := api.Op{Draft: api.Draft{Key: "k", Value: "v"}, Preds: rising(2)}
	for _, n := range []int{-1, -2, -255, -256, bottom + 1, bottom} {
		d := base.Draft
		d.Kind = n
		if op.DraftText(d) != op.DraftText(base.Draft) {
			t.Errorf("Kind %d: %x", n, op.DraftText(d))
		}
		kind, author, depth := base, base, base
		kind.Kind, author.Author, depth.Depth = n, n, n
		for _, o := range []api.Op{kind, author, depth} {
			if op.Text(o) != op.Text(base) || op.Name(o) != op.Name(base) || op.Batch(o) != op.Batch(base) {
				t.Errorf("%x: %x", o, op.Text(o))
			}
		}
	}
}

// P9.1: Text and Name of any number of Preds, in any order.
func TestTextOfManyPreds(t *testing.T) {
	for _, count := range []int{0, 1, 7, 8, 31, 32, 33, 100, 1000, 9000} {
		o := api.Op{Draft: goodDrafts()[0], Author: 1, Depth: 2, Preds: rising(count)}
		slices.Reverse(o.Preds)
		if op.Text(o) != opBytes(o) || op.Name(o) != nameOf(o) || op.Batch(o) != batchBytes(o) {
			t.Errorf("%d Preds: %d bytes", count, len(op.Text(o)))
		}
	}
}

// P9.1: each field of an operation is in its encoding, and so in its name.
func TestNamesDiffer(t *testing.T) {
	base := api.Op{Draft: goodDrafts()[4], Author: 3, Depth: 7, Preds: rising(5)}
	names := map[api.Id]int{op.Name(base): -1}
	for i, change := range []func(o *api.Op){
		func(o *api.Op) { o.Kind++ },
		func(o *api.Op) { o.Key += "\x00" },
		func(o *api.Op) { o.Value += "\x00" },
		func(o *api.Op) { o.Key, o.Value = o.Value, o.Key },
		func(o *api.Op) { o.Key, o.Value = o.Key+o.Value, "" },
		func(o *api.Op) { o.Ref[0]++ },
		func(o *api.Op) { o.Ref[31]++ },
		func(o *api.Op) { o.Author++ },
		func(o *api.Op) { o.Depth++ },
		func(o *api.Op) { o.Author, o.Depth = o.Depth, o.Author },
		func(o *api.Op) { o.Preds = o.Preds[1:] },
		func(o *api.Op) { o.Preds[4][31]++ },
		func(o *api.Op) { o.Preds = append(o.Preds, api.Id{}) },
		func(o *api.Op) { slices.Reverse(o.Preds) },
	} {
		o := base
		o.Preds = slices.Clone(base.Preds)
		change(&o)
		name := op.Name(o)
		if other, ok := names[name]; ok {
			t.Errorf("change %d has the name of change %d", i, other)
		}
		names[name] = i
	}
}

// P9.1: Batch of none, of one, of 8 and of more operations, valid and not, in order.
func TestBatch(t *testing.T) {
	if op.Batch() != "\x00" {
		t.Errorf("none: %x", op.Batch())
	}
	all := append(append(goodOps(), badOps()...), allOps()...)
	for _, count := range []int{0, 1, 2, 7, 8, 9, 10, 100, 255, 256, len(all)} {
		for _, from := range []int{0, 5, 20} {
			list := all[from : from+min(count, len(all)-from)]
			if got, want := op.Batch(list...), batchBytes(list...); got != want {
				t.Errorf("%d operations: %x, want %x", count, got, want)
			}
		}
	}
	for _, o := range all {
		if op.Batch(o) != pack.List(op.Text(o)) || op.Batch(o, o) != batchBytes(o, o) {
			t.Errorf("%x: %x", o, op.Batch(o))
		}
	}
	a, b := goodOps()[0], goodOps()[1]
	if op.Batch(a, b) == op.Batch(b, a) || op.Batch(a, b) != batchBytes(a, b) {
		t.Error("the order of two is lost")
	}
	many := make([]api.Op, 5000)
	if op.Batch(many...) != batchBytes(many...) {
		t.Error("5000 operations")
	}
}
