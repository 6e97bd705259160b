package op_test

import (
	"math"
	"slices"
	"strings"
	"testing"

	"tribunal/api"
	"tribunal/op"
	"tribunal/pack"
	"tribunal/sha"
)

// top and bottom are the greatest and the least number.
const (
	top    = math.MaxInt64
	bottom = math.MinInt64
)

// row is numbers that look like chance, the same ones in each run.
type row uint64

func (r *row) next(below int) int {
	*r = *r*6364136223846793005 + 1442695040888963407
	return int(uint64(*r)>>33) % below
}

// filled is the name whose bytes are all b.
func filled(b byte) api.Id {
	var x api.Id
	for i := range x {
		x[i] = b
	}
	return x
}

// with is the name x, with another byte at a place.
func with(x api.Id, at int, b byte) api.Id {
	x[at] = b
	return x
}

// rising are so many names in strictly ascending order; the first bytes of neighbours differ, or the last ones alone.
func rising(count int) []api.Id {
	list := make([]api.Id, count)
	for i := range list {
		list[i] = with(with(filled(0xee), 0, byte(i/2*7+1)), 31, byte(i%2*0x90))
	}
	return list
}

// refs are Refs: zero, and such as are not, by one byte or by all.
func refs() []api.Id {
	return []api.Id{{}, {1}, with(api.Id{}, 16, 0x80), with(api.Id{}, 31, 1), filled(0xff)}
}

// keys are Keys of all sizes at which something turns.
func keys() []string {
	return []string{"", "k", "\x00", "\xff\x00", strings.Repeat("k", 15), strings.Repeat("k", 16), strings.Repeat("\xff", 16), strings.Repeat("k", 17), strings.Repeat("k", 256+16)}
}

// values are Values of all sizes at which something turns.
func values() []string {
	return []string{"", "v", "\x00\xff", strings.Repeat("v", 63), strings.Repeat("v", 64), strings.Repeat("v", 65), strings.Repeat("v", 256+64)}
}

// kinds are all five, and others.
func kinds() []int {
	return []int{bottom, -256, -5, -4, -1, 0, 1, 2, 3, 4, 5, 6, 7, 256, 257, 1<<32 + 1, top}
}

// allDrafts are drafts of all kinds, Keys, Values and Refs, valid and not.
func allDrafts() []api.Draft {
	var list []api.Draft
	for _, kind := range kinds() {
		for _, key := range keys() {
			for _, value := range values() {
				for _, ref := range refs() {
					list = append(list, api.Draft{Kind: kind, Key: key, Value: value, Ref: ref})
				}
			}
		}
	}
	return list
}

// goodDrafts are a few drafts that are valid, at least one of each kind.
func goodDrafts() []api.Draft {
	return []api.Draft{
		{Kind: 1, Key: "set", Value: "x"},
		{Kind: 2, Key: strings.Repeat("k", 16), Value: strings.Repeat("v", 64)},
		{Kind: 3, Key: "\x00"},
		{Kind: 4, Key: "list", Value: "x"},
		{Kind: 4, Key: "list", Value: "\xff\x00", Ref: with(api.Id{}, 31, 1)},
		{Kind: 4, Key: strings.Repeat("\xff", 16), Value: strings.Repeat("\x00", 64), Ref: filled(0xff)},
		{Kind: 5, Key: "list", Ref: api.Id{1}},
	}
}

// badDrafts are a few drafts that are not valid, by one thing each.
func badDrafts() []api.Draft {
	return []api.Draft{
		{},
		{Kind: 0, Key: "set", Value: "x"},
		{Kind: -1, Key: "set", Value: "x"},
		{Kind: 6, Key: "set", Value: "x"},
		{Kind: 1, Key: "", Value: "x"},
		{Kind: 1, Key: strings.Repeat("k", 17), Value: "x"},
		{Kind: 1, Key: "set", Value: strings.Repeat("v", 65)},
		{Kind: 1, Key: "set", Value: "x", Ref: api.Id{1}},
		{Kind: 2, Key: "set", Value: "x", Ref: with(api.Id{}, 31, 1)},
		{Kind: 3, Key: "set", Value: "x", Ref: filled(0xff)},
		{Kind: 5, Key: "list"},
		{Kind: 5, Key: "list", Value: "x", Ref: api.Id{1}},
	}
}

// predsOfAllKinds are Preds: of numbers at which something turns, and with two that are equal, or descend.
func predsOfAllKinds() [][]api.Id {
	list := [][]api.Id{{{}}, {filled(0xff)}, {{}, {}}, {{2}, {1}}, {{0x80}, {0x7f}}}
	for _, count := range []int{0, 1, 2, 3, 31, 32, 33, 34, 64} {
		list = append(list, rising(count))
	}
	for _, at := range []int{1, 15, 30} {
		equal, swapped := rising(32), rising(32)
		equal[at] = equal[at-1]
		swapped[at], swapped[at-1] = swapped[at-1], swapped[at]
		list = append(list, equal, swapped)
	}
	return list
}

// allOps are operations of all authors, depths and Preds, with drafts that are valid and not.
func allOps() []api.Op {
	drafts := append(goodDrafts()[1:6:6], badDrafts()[2:5]...)
	var list []api.Op
	for _, author := range []int{bottom, -1, 0, 1, 4, 5, 256, top} {
		for _, depth := range []int{bottom, -1, 0, 1, 2, 255, 256, top} {
			for i, preds := range predsOfAllKinds() {
				d := drafts[(i+len(list))%len(drafts)]
				list = append(list, api.Op{Draft: d, Author: author, Depth: depth, Preds: preds})
			}
		}
	}
	return list
}

// goodOps are a few operations that are valid: each draft of goodDrafts, with Preds and without.
func goodOps() []api.Op {
	var list []api.Op
	for i, d := range goodDrafts() {
		list = append(list,
			api.Op{Draft: d, Author: i % 5, Depth: 1},
			api.Op{Draft: d, Author: (i + 1) % 5, Depth: 2 + 127*i, Preds: rising(i + 1)},
		)
	}
	return append(list,
		api.Op{Draft: goodDrafts()[1], Author: 4, Depth: top, Preds: rising(32)},
		api.Op{Draft: goodDrafts()[4], Author: 0, Depth: 256, Preds: []api.Id{{}}},
	)
}

// badOps are operations that are not valid, by one thing each.
func badOps() []api.Op {
	d := goodDrafts()[4]
	list := []api.Op{
		{Draft: d, Author: 5, Depth: 1},
		{Draft: d, Author: 5, Depth: 2, Preds: rising(1)},
		{Draft: d, Author: 256, Depth: 1},
		{Draft: d, Author: top, Depth: 1},
		{Draft: d, Author: 1, Depth: 0},
		{Draft: d, Author: 1, Depth: -1},
		{Draft: d, Author: 1, Depth: 2},
		{Draft: d, Author: 1, Depth: 0, Preds: rising(3)},
		{Draft: d, Author: 1, Depth: 1, Preds: rising(3)},
		{Draft: d, Author: 1, Depth: bottom, Preds: rising(3)},
		{Draft: d, Author: 1, Depth: 2, Preds: rising(33)},
		{Draft: d, Author: 1, Depth: 2, Preds: []api.Id{{1}, {1}}},
		{Draft: d, Author: 1, Depth: 2, Preds: []api.Id{{2}, {1}}},
		{Draft: d, Author: 1, Depth: 2, Preds: []api.Id{{1}, {3}, {2}}},
	}
	for _, d := range badDrafts() {
		list = append(list, api.Op{Draft: d, Author: 1, Depth: 1}, api.Op{Draft: d, Author: 1, Depth: 2, Preds: rising(2)})
	}
	return list
}

// validDraft tells whether a draft is valid, as the chapter has it.
func validDraft(d api.Draft) bool {
	zero := strings.Trim(string(d.Ref[:]), "\x00") == ""
	byKind := map[int]bool{1: zero, 2: zero, 3: zero, 4: true, 5: !zero && d.Value == ""}
	return byKind[d.Kind] && 1 <= len(d.Key) && len(d.Key) <= 16 && len(d.Value) <= 64
}

// validOp tells whether an operation is valid, as the chapter has it: each of its Preds is less than all that follow.
func validOp(o api.Op) bool {
	for i, x := range o.Preds {
		for _, y := range o.Preds[i+1:] {
			if string(x[:]) >= string(y[:]) {
				return false
			}
		}
	}
	count := len(o.Preds)
	return validDraft(o.Draft) && 0 <= o.Author && o.Author <= 4 && count <= 32 && (count == 0 && o.Depth == 1 || count > 0 && o.Depth >= 2)
}

// draftBytes is a draft's encoding, spelt out from layer 1's.
func draftBytes(d api.Draft) string {
	return pack.List(pack.Num(d.Kind), d.Key, d.Value, string(d.Ref[:]))
}

// opBytes is an operation's encoding, spelt out from layer 1's.
func opBytes(o api.Op) string {
	var preds strings.Builder
	for _, x := range o.Preds {
		preds.Write(x[:])
	}
	return pack.List(pack.Num(o.Author), pack.Num(o.Depth), preds.String(), draftBytes(o.Draft))
}

// batchBytes is a payload, spelt out from layer 1's encoding.
func batchBytes(list ...api.Op) string {
	var texts []string
	for _, o := range list {
		texts = append(texts, opBytes(o))
	}
	return pack.List(texts...)
}

// nameOf is an operation's name, spelt out from layer 2's Sum.
func nameOf(o api.Op) api.Id {
	return sha.Sum("op", opBytes(o))
}

// numberIn takes a number's encoding from the beginning of s, byte by byte; false, if there is none.
func numberIn(s string) (int, string, bool) {
	if s == "" || s[0] > 8 || len(s) <= int(s[0]) {
		return 0, "", false
	}
	digits, rest := s[1:1+s[0]], s[1+s[0]:]
	if digits != "" && digits[0] == 0 || len(digits) == 8 && digits[0] > 127 {
		return 0, "", false
	}
	n := 0
	for _, digit := range []byte(digits) {
		n = n*256 + int(digit)
	}
	return n, rest, true
}

// stringsIn are the strings of the list whose encoding is s; false, if there is none.
func stringsIn(s string) ([]string, bool) {
	count, rest, ok := numberIn(s)
	if !ok || len(s) > 1<<18 || count > 4096 {
		return nil, false
	}
	var list []string
	for range count {
		size, behind, ok := numberIn(rest)
		if !ok || size > len(behind) {
			return nil, false
		}
		list = append(list, behind[:size])
		rest = behind[size:]
	}
	return list, rest == ""
}

// draftIn is the valid draft whose encoding is s; false, if there is none.
func draftIn(s string) (api.Draft, bool) {
	list, ok := stringsIn(s)
	if !ok || len(list) != 4 || len(list[3]) != 32 {
		return api.Draft{}, false
	}
	kind, rest, ok := numberIn(list[0])
	d := api.Draft{Kind: kind, Key: list[1], Value: list[2], Ref: api.Id([]byte(list[3]))}
	if !ok || rest != "" || !validDraft(d) {
		return api.Draft{}, false
	}
	return d, true
}

// opIn is the valid operation whose encoding is s; false, if there is none.
func opIn(s string) (api.Op, bool) {
	list, ok := stringsIn(s)
	if !ok || len(list) != 4 || len(list[2])%32 != 0 {
		return api.Op{}, false
	}
	author, behind, isAuthor := numberIn(list[0])
	depth, rest, isDepth := numberIn(list[1])
	d, isDraft := draftIn(list[3])
	o := api.Op{Draft: d, Author: author, Depth: depth}
	for name := range slices.Chunk([]byte(list[2]), 32) {
		o.Preds = append(o.Preds, api.Id(name))
	}
	if !isAuthor || !isDepth || !isDraft || behind+rest != "" || !validOp(o) {
		return api.Op{}, false
	}
	return o, true
}

// batchIn are the valid operations whose payload is s; false, if there are none.
func batchIn(s string) ([]api.Op, bool) {
	texts, ok := stringsIn(s)
	if !ok || len(texts) > 8 {
		return nil, false
	}
	var list []api.Op
	for _, text := range texts {
		o, ok := opIn(text)
		if !ok {
			return nil, false
		}
		list = append(list, o)
	}
	return list, true
}

// same tells whether two operations are equal.
func same(a, b api.Op) bool {
	return a.Draft == b.Draft && a.Author == b.Author && a.Depth == b.Depth && slices.Equal(a.Preds, b.Preds)
}

// zero tells whether an operation has nothing.
func zero(o api.Op) bool {
	return same(o, api.Op{})
}

// draftRead asks ReadDraft for what the reference tells of these bytes, and that what is read encodes as them; it tells whether it is a draft.
func draftRead(t *testing.T, s string) bool {
	t.Helper()
	got, e := op.ReadDraft(s)
	want, ok := draftIn(s)
	if got != want || (e == api.OK) != ok || !ok && e != api.ErrForm {
		t.Fatalf("draft %x: %x, %d, want %x, %v", s, got, e, want, ok)
	}
	if ok && (op.DraftText(got) != s || !op.GoodDraft(got)) {
		t.Fatalf("draft %x: %x encodes as %x", s, got, op.DraftText(got))
	}
	return ok
}

// opRead asks Read for what the reference tells of these bytes, and that what is read encodes as them; it tells whether it is an operation.
func opRead(t *testing.T, s string) bool {
	t.Helper()
	got, e := op.Read(s)
	want, ok := opIn(s)
	if !same(got, want) || (e == api.OK) != ok || !ok && e != api.ErrForm {
		t.Fatalf("operation %x: %x, %d, want %x, %v", s, got, e, want, ok)
	}
	if ok && (op.Text(got) != s || !op.Good(got)) {
		t.Fatalf("operation %x: %x encodes as %x", s, got, op.Text(got))
	}
	return ok
}

// batchRead asks ReadBatch for what the reference tells of these bytes, and that what is read encodes as them; it tells whether it is a payload.
func batchRead(t *testing.T, s string) bool {
	t.Helper()
	got, e := op.ReadBatch(s)
	want, ok := batchIn(s)
	if !slices.EqualFunc(got, want, same) || (e == api.OK) != ok || !ok && e != api.ErrForm {
		t.Fatalf("payload %x: %x, %d, want %x, %v", s, got, e, want, ok)
	}
	if ok && op.Batch(got...) != s {
		t.Fatalf("payload %x: %x encodes as %x", s, got, op.Batch(got...))
	}
	return ok
}

// noDraft asks for ErrForm, and no draft.
func noDraft(t *testing.T, s string) {
	t.Helper()
	if d, e := op.ReadDraft(s); e != api.ErrForm || d != (api.Draft{}) {
		t.Errorf("draft %x: %x, %d", s, d, e)
	}
}

// noOp asks for ErrForm, and no operation.
func noOp(t *testing.T, s string) {
	t.Helper()
	if o, e := op.Read(s); e != api.ErrForm || !zero(o) {
		t.Errorf("operation %x: %x, %d", s, o, e)
	}
}

// noBatch asks for ErrForm, and no operations.
func noBatch(t *testing.T, s string) {
	t.Helper()
	if list, e := op.ReadBatch(s); e != api.ErrForm || len(list) != 0 {
		t.Errorf("payload %x: %x, %d", s, list, e)
	}
}
