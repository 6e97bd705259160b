package op_test

import (
	"slices"
	"strings"
	"testing"

	"tribunal/api"
	"tribunal/op"
	"tribunal/pack"
)

func (r *row) text(size int) string {
	b := make([]byte, size)
	for i := range b {
		b[i] = byte(r.next(256))
	}
	return string(b)
}

func (r *row) name() api.Id {
	return api.Id([]byte(r.text(32)))
}

// draft is a draft that is valid.
func (r *row) draft() api.Draft {
	d := api.Draft{Kind: 1 + r.next(5), Key: r.text(1 + r.next(16)), Value: r.text(r.next(65))}
	if d.Kind == 5 {
		d.Value = ""
	}
	if d.Kind == 5 || d.Kind == 4 && r.next(2) == 0 {
		d.Ref = r.name()
	}
	return d
}

// op is an operation that is valid.
func (r *row) op() api.Op {
	o := api.Op{Draft: r.draft(), Author: r.next(5), Depth: 1}
	for range r.next(33) * r.next(2) {
		o.Preds = append(o.Preds, r.name())
		o.Depth = 2 + r.next(1<<r.next(31))
	}
	slices.SortFunc(o.Preds, func(a, b api.Id) int { return strings.Compare(string(a[:]), string(b[:])) })
	return o
}

// pick is one of some strings.
func (r *row) pick(list ...string) string {
	return list[r.next(len(list))]
}

// P9.2: drafts that are valid are decoded from their encodings.
func TestDraftsComeBack(t *testing.T) {
	var chance row = 1
	list := goodDrafts()
	for _, d := range allDrafts() {
		if op.GoodDraft(d) {
			list = append(list, d)
		}
	}
	for range 5000 {
		list = append(list, chance.draft())
	}
	for _, d := range list {
		if got, e := op.ReadDraft(op.DraftText(d)); e != api.OK || got != d || !op.GoodDraft(d) {
			t.Errorf("%x: %x, %d", d, got, e)
		}
	}
}

// P9.2: operations that are valid are decoded from their encodings, and so are payloads of up to 8 of them.
func TestOpsComeBack(t *testing.T) {
	var chance row = 2
	list := goodOps()
	for _, o := range allOps() {
		if op.Good(o) {
			list = append(list, o)
		}
	}
	for range 5000 {
		list = append(list, chance.op())
	}
	for i, o := range list {
		if got, e := op.Read(op.Text(o)); e != api.OK || !same(got, o) || !op.Good(o) {
			t.Errorf("%x: %x, %d", o, got, e)
		}
		batch := list[i:min(i+i%9, len(list))]
		if got, e := op.ReadBatch(op.Batch(batch...)); e != api.OK || !slices.EqualFunc(got, batch, same) {
			t.Errorf("%d operations from %d: %d, %d", len(batch), i, len(got), e)
		}
	}
}

// pieces are strings of which drafts, operations and payloads are made, that fit mostly.
type pieces struct {
	chance  row
	numbers []string
	ids     []string
}

func newPieces() *pieces {
	p := &pieces{chance: 9, numbers: []string{"", "\x00", "\x01\x00", "\x01\x01", "\x01\x02", "\x01\x03", "\x01\x04", "\x01\x05", "\x01\x06", "\x01\x01\x00", "\x02\x01\x00", "\x02\x00\x01"}}
	for _, x := range append(refs(), rising(3)...) {
		p.ids = append(p.ids, string(x[:]))
	}
	return p
}

func (p *pieces) draft() string {
	r := &p.chance
	list := []string{r.pick(p.numbers[3:8]...), r.pick(keys()[1:7]...), r.pick(values()[:5]...), r.pick(p.ids...)}
	if r.next(8) == 0 {
		list[r.next(4)] = r.pick(r.pick(p.numbers...), r.pick(keys()...), r.pick(values()...), r.pick(p.ids...)[1:], "")
	}
	return pack.List(list...)
}

func (p *pieces) op() string {
	r := &p.chance
	preds := strings.Join(p.ids[r.next(5):][:r.next(4)], "")
	list := []string{r.pick(p.numbers[1], p.numbers[3]), r.pick(p.numbers[3:5]...), preds, p.draft()}
	if r.next(8) == 0 {
		list[r.next(3)] = r.pick(r.pick(p.numbers...), r.pick(p.ids...)[1:], r.pick(p.ids...)+r.pick(p.ids...), "")
	}
	return pack.List(list...)
}

func (p *pieces) batch() string {
	texts := make([]string, 1+p.chance.next(3))
	for i := range texts {
		texts[i] = p.op()
	}
	return pack.List(texts...)
}

// P9.2: bytes that are decoded are the encoding of the result: bytes of pieces that fit, or nearly, each with the reference beside it.
func TestBytesComeBack(t *testing.T) {
	p := newPieces()
	counts := [3]int{}
	for range 20000 {
		for kind, is := range []bool{draftRead(t, p.draft()), opRead(t, p.op()), batchRead(t, p.batch())} {
			if is {
				counts[kind]++
			}
		}
	}
	for kind, count := range counts {
		if count < 200 || count > 19800 {
			t.Errorf("%d of 20000 are of kind %d", count, kind)
		}
	}
}

// P9.2: no two byte strings are decoded as the same: of all strings that differ from an encoding in one byte, each that is read is another draft.
func TestBytesReadDiffer(t *testing.T) {
	for _, d := range goodDrafts() {
		seen := map[api.Draft]string{}
		other(op.DraftText(d), func(s string) {
			got, e := op.ReadDraft(s)
			if e != api.OK {
				return
			}
			if before, ok := seen[got]; got == d || ok && before != s {
				t.Errorf("%x and %x: %x", before, s, got)
			}
			seen[got] = s
		})
	}
}
