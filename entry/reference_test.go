package entry_test

import (
	"fmt"
	"math"
	"slices"
	"strings"
	"testing"

	"tribunal/api"
	"tribunal/entry"
	"tribunal/op"
	"tribunal/pack"
)

// top and bottom are the greatest and the least number.
const (
	top    = math.MaxInt64
	bottom = math.MinInt64
)

// row is numbers that look like chance, the same ones in each run.
type row uint64

func (r *row) next(below int) int {
	*r = *r*6364136223846793005 + 1442695040888963407
	return int(uint64(*r)>>33) % below
}

// text is a text of so many bytes.
func (r *row) text(size int) string {
	b := make([]byte, size)
	for i := range b {
		b[i] = byte(r.next(256))
	}
	return string(b)
}

// id is a name; sometimes the zero one.
func (r *row) id() api.Id {
	if r.next(8) == 0 {
		return api.Id{}
	}
	return api.Id([]byte(r.text(32)))
}

// draft is a draft that is valid.
func (r *row) draft() api.Draft {
	d := api.Draft{Kind: 1 + r.next(5), Key: r.text(1 + r.next(16)), Value: r.text(r.next(65))}
	switch {
	case d.Kind == 5:
		d.Value, d.Ref = "", filled(byte(1+r.next(255)))
	case d.Kind == 4:
		d.Ref = r.id()
	}
	return d
}

// entry is an entry that is valid; its texts are mostly short.
func (r *row) entry() api.Entry {
	payload := r.text(r.next(5))
	if r.next(16) == 0 {
		payload = r.text(r.next(2049))
	}
	mask := 1 + r.next(31)
	switch r.next(3) {
	case 0:
		return api.Entry{Kind: 1, Draft: r.draft()}
	case 1:
		sig := r.text(r.next(4) * r.next(300))
		return api.Entry{Kind: 2, From: r.next(5), Seq: 1 + r.next(1<<r.next(31)), Prev: r.id(), Mask: mask, Payload: payload, Sig: sig}
	}
	return api.Entry{Kind: 3, Mask: mask, Payload: payload}
}

// filled is the name whose bytes are all b.
func filled(b byte) api.Id {
	return api.Id([]byte(strings.Repeat(string([]byte{b}), 32)))
}

// last is the name that is zero but for its last byte.
func last(b byte) api.Id {
	var x api.Id
	x[31] = b
	return x
}

// drafts are drafts that are valid: at least one of each kind.
func drafts() []api.Draft {
	return []api.Draft{
		{Kind: 1, Key: "set", Value: "x"},
		{Kind: 2, Key: strings.Repeat("k", 16), Value: strings.Repeat("v", 64)},
		{Kind: 3, Key: "\x00"},
		{Kind: 4, Key: "list", Value: "x"},
		{Kind: 4, Key: strings.Repeat("\xff", 16), Value: strings.Repeat("\x00", 64), Ref: filled(0xff)},
		{Kind: 5, Key: "list", Ref: last(1)},
	}
}

// badDrafts are drafts that are not valid, by one thing each.
func badDrafts() []api.Draft {
	return []api.Draft{
		{},
		{Kind: 0, Key: "set", Value: "x"},
		{Kind: -1, Key: "set", Value: "x"},
		{Kind: 6, Key: "set", Value: "x"},
		{Kind: 1, Value: "x"},
		{Kind: 1, Key: strings.Repeat("k", 17), Value: "x"},
		{Kind: 1, Key: "set", Value: strings.Repeat("v", 65)},
		{Kind: 1, Key: "set", Value: "x", Ref: last(1)},
		{Kind: 5, Key: "list"},
		{Kind: 5, Key: "list", Value: "x", Ref: last(1)},
	}
}

// recv is a Recv that is valid; the others are made from it.
func recv() api.Entry {
	return api.Entry{Kind: 2, From: 1, Seq: 7, Prev: filled(9), Mask: 5, Payload: "payload", Sig: "sig"}
}

// good are entries that are valid, with each field at each of its edges.
func good() []api.Entry {
	var list []api.Entry
	for _, d := range drafts() {
		list = append(list, api.Entry{Kind: 1, Draft: d})
	}
	for mask := 1; mask <= 31; mask++ {
		e := recv()
		e.Mask = mask
		list = append(list, e, api.Entry{Kind: 3, Mask: mask, Payload: "p"})
	}
	for _, size := range []int{0, 1, 127, 128, 255, 256, 1023, 1024, 1025, 2047, 2048} {
		e := recv()
		e.Payload = strings.Repeat("p", size)
		list = append(list, e, api.Entry{Kind: 3, Mask: 16, Payload: e.Payload})
	}
	for _, size := range []int{0, 1, 16, 255, 256, 257, 1023, 1024} {
		e := recv()
		e.Sig = strings.Repeat("\xff", size)
		list = append(list, e)
	}
	for _, from := range []int{0, 1, 2, 3, 4} {
		e := recv()
		e.From = from
		list = append(list, e)
	}
	for _, seq := range []int{1, 2, 255, 256, 1 << 31, 1 << 32, top - 1, top} {
		e := recv()
		e.Seq = seq
		list = append(list, e)
	}
	for _, prev := range []api.Id{{}, {1}, last(1), filled(0xff)} {
		e := recv()
		e.Prev = prev
		list = append(list, e)
	}
	return append(list,
		api.Entry{Kind: 2, Seq: 1, Mask: 1},
		api.Entry{Kind: 2, From: 4, Seq: top, Prev: filled(0xff), Mask: 31, Payload: strings.Repeat("\x00", 2048), Sig: strings.Repeat("\x00", 1024)},
		api.Entry{Kind: 3, Mask: 1},
	)
}

// strayed are entries made from e by one field each, that e must not have: each field of a draft, or of what came, alone.
func strayed(e api.Entry, change ...func(e *api.Entry)) []api.Entry {
	var list []api.Entry
	for _, f := range change {
		other := e
		f(&other)
		list = append(list, other)
	}
	return list
}

// draftFields gives one field each of the draft a value.
func draftFields() []func(e *api.Entry) {
	return []func(e *api.Entry){
		func(e *api.Entry) { e.Draft.Kind = 1 },
		func(e *api.Entry) { e.Draft.Kind = bottom },
		func(e *api.Entry) { e.Draft.Key = "k" },
		func(e *api.Entry) { e.Draft.Key = "\x00" },
		func(e *api.Entry) { e.Draft.Value = "v" },
		func(e *api.Entry) { e.Draft.Value = "\x00" },
		func(e *api.Entry) { e.Draft.Ref = api.Id{1} },
		func(e *api.Entry) { e.Draft.Ref = last(1) },
		func(e *api.Entry) { e.Draft = drafts()[0] },
	}
}

// originFields gives one field each of those that tell where something came from a value.
func originFields() []func(e *api.Entry) {
	return []func(e *api.Entry){
		func(e *api.Entry) { e.From = 1 },
		func(e *api.Entry) { e.From = 4 },
		func(e *api.Entry) { e.From = -1 },
		func(e *api.Entry) { e.Seq = 1 },
		func(e *api.Entry) { e.Seq = -1 },
		func(e *api.Entry) { e.Seq = top },
		func(e *api.Entry) { e.Prev = api.Id{1} },
		func(e *api.Entry) { e.Prev = last(0x80) },
		func(e *api.Entry) { e.Sig = "s" },
		func(e *api.Entry) { e.Sig = "\x00" },
	}
}

// cargoFields gives the mask, or the payload, a value.
func cargoFields() []func(e *api.Entry) {
	return []func(e *api.Entry){
		func(e *api.Entry) { e.Mask = 1 },
		func(e *api.Entry) { e.Mask = 31 },
		func(e *api.Entry) { e.Mask = -1 },
		func(e *api.Entry) { e.Payload = "p" },
		func(e *api.Entry) { e.Payload = "\x00" },
	}
}

// wrongCargo gives the mask, or the payload, a value that can't be sent.
func wrongCargo() []func(e *api.Entry) {
	list := []func(e *api.Entry){
		func(e *api.Entry) { e.Payload = strings.Repeat("p", 2049) },
		func(e *api.Entry) { e.Payload = strings.Repeat("p", 4096) },
		func(e *api.Entry) { e.Payload = strings.Repeat("p", 65536+1) },
	}
	for _, mask := range []int{0, 32, 33, 63, 64, 256 + 1, 1<<32 + 1, top, top - 1, -1, -31, -32, bottom, bottom + 1} {
		list = append(list, func(e *api.Entry) { e.Mask = mask })
	}
	return list
}

// wrongOrigin gives a field that tells where something came from a value that can't be.
func wrongOrigin() []func(e *api.Entry) {
	list := []func(e *api.Entry){
		func(e *api.Entry) { e.Sig = strings.Repeat("s", 1025) },
		func(e *api.Entry) { e.Sig = strings.Repeat("s", 2048) },
	}
	for _, from := range []int{5, 6, 8, 256, 1 << 32, top, -1, -5, bottom} {
		list = append(list, func(e *api.Entry) { e.From = from })
	}
	for _, seq := range []int{0, -1, -7, bottom} {
		list = append(list, func(e *api.Entry) { e.Seq = seq })
	}
	return list
}

// bad are entries that are not valid, for one reason each.
func bad() []api.Entry {
	var list []api.Entry
	for _, d := range badDrafts() {
		list = append(list, api.Entry{Kind: 1, Draft: d})
	}
	for _, d := range drafts() {
		own := api.Entry{Kind: 1, Draft: d}
		list = append(list, strayed(own, originFields()...)...)
		list = append(list, strayed(own, cargoFields()...)...)
	}
	for _, e := range []api.Entry{recv(), {Kind: 2, Seq: 1, Mask: 1}} {
		list = append(list, strayed(e, draftFields()...)...)
		list = append(list, strayed(e, wrongOrigin()...)...)
		list = append(list, strayed(e, wrongCargo()...)...)
	}
	for _, e := range []api.Entry{{Kind: 3, Mask: 31, Payload: "p"}, {Kind: 3, Mask: 1}} {
		list = append(list, strayed(e, draftFields()...)...)
		list = append(list, strayed(e, originFields()...)...)
		list = append(list, strayed(e, wrongCargo()...)...)
	}
	return append(list, ofNoKind()...)
}

// ofNoKind are entries with each Kind that there is none of, with and without all that the others have.
func ofNoKind() []api.Entry {
	var list []api.Entry
	for _, kind := range []int{0, 4, 5, 7, 256 + 1, 256 + 2, 256 + 3, 1<<32 + 1, 1<<32 + 3, top, -1, -2, -3, bottom, bottom + 1, bottom + 3} {
		whole := recv()
		whole.Kind = kind
		list = append(list, whole, api.Entry{Kind: kind}, api.Entry{Kind: kind, Draft: drafts()[0]}, api.Entry{Kind: kind, Mask: 1, Payload: "p"})
	}
	return list
}

// told is what an entry, or an output, is for a reader: its beginning, as its texts may be long.
func told(x any) string {
	s := fmt.Sprintf("%+v", x)
	return s[:min(len(s), 400)]
}

// valid tells whether an entry is valid, as the chapter has it.
func valid(e api.Entry) bool {
	none := e.Draft.Kind == 0 && e.Draft.Key+e.Draft.Value == "" && e.Draft.Ref == api.Id{}
	cargo := 1 <= e.Mask && e.Mask <= 31 && len(e.Payload) <= 2048
	origin := 0 <= e.From && e.From <= 4 && e.Seq >= 1 && len(e.Sig) <= 1024
	without := e.From == 0 && e.Seq == 0 && e.Prev == api.Id{} && e.Sig == ""
	byKind := map[int]bool{
		1: op.GoodDraft(e.Draft) && without && e.Mask == 0 && e.Payload == "",
		2: none && origin && cargo,
		3: none && without && cargo,
	}
	return byKind[e.Kind]
}

// encoded is a valid entry's encoding, spelt out from those of layers 1 and 9.
func encoded(e api.Entry) string {
	switch e.Kind {
	case 1:
		return pack.List("\x01\x01", op.DraftText(e.Draft))
	case 2:
		return pack.List("\x01\x02", pack.Num(e.From), pack.Num(e.Seq), string(e.Prev[:]), pack.Num(e.Mask), e.Payload, e.Sig)
	}
	return pack.List("\x01\x03", pack.Num(e.Mask), e.Payload)
}

// numberIn is the number whose encoding is s, and nothing else; false, if there is none.
func numberIn(s string) (int, bool) {
	if s == "" || s[0] > 8 || len(s) != 1+int(s[0]) || len(s) > 1 && s[1] == 0 || len(s) == 9 && s[1] > 127 {
		return 0, false
	}
	n := 0
	for _, digit := range []byte(s[1:]) {
		n = n*256 + int(digit)
	}
	return n, true
}

// entryIn is the valid entry whose encoding is s; false, if there is none.
func entryIn(s string) (api.Entry, bool) {
	list, failed := pack.Split(s)
	sizes := map[string]int{"\x01\x01": 2, "\x01\x02": 7, "\x01\x03": 3}
	if failed != api.OK || len(list) == 0 || sizes[list[0]] != len(list) {
		return api.Entry{}, false
	}
	var e api.Entry
	right := true
	number := func(at int) int {
		n, is := numberIn(list[at])
		right = right && is
		return n
	}
	switch len(list) {
	case 2:
		d, failed := op.ReadDraft(list[1])
		e, right = api.Entry{Kind: 1, Draft: d}, failed == api.OK
	case 7:
		e = api.Entry{Kind: 2, From: number(1), Seq: number(2), Mask: number(4), Payload: list[5], Sig: list[6]}
		right = right && len(list[3]) == 32 && copy(e.Prev[:], list[3]) == 32
	case 3:
		e = api.Entry{Kind: 3, Mask: number(1), Payload: list[2]}
	}
	if !right || !valid(e) {
		return api.Entry{}, false
	}
	return e, true
}

// read asks Read for what the reference tells of these bytes, and that what is read encodes as them; it tells whether it is an entry.
func read(t *testing.T, s string) bool {
	t.Helper()
	got, e := entry.Read(s)
	want, is := entryIn(s)
	if got != want || (e == api.OK) != is || !is && e != api.ErrForm {
		t.Fatalf("%.100x: %s, %d, want %s, %v", s, told(got), e, told(want), is)
	}
	if is && (entry.Text(got) != s || !entry.Good(got)) {
		t.Fatalf("%.100x: %s encodes as %.100x", s, told(got), entry.Text(got))
	}
	return is
}

// readAll asks ReadAll for what the reference tells of these bytes, and that what is read encodes as them; it tells whether it is entries.
func readAll(t *testing.T, s string) bool {
	t.Helper()
	texts, failed := pack.Split(s)
	is := failed == api.OK
	var want []api.Entry
	for _, text := range texts {
		one, right := entryIn(text)
		is = is && right
		want = append(want, one)
	}
	got, e := entry.ReadAll(s)
	if !is {
		want = nil
	}
	if !slices.Equal(got, want) || (e == api.OK) != is || !is && e != api.ErrForm {
		t.Fatalf("%.100x: %d entries, %d, want %d, %v", s, len(got), e, len(want), is)
	}
	if is && entry.Texts(got...) != s {
		t.Fatalf("%.100x: what is read encodes as %.100x", s, entry.Texts(got...))
	}
	return is
}

// none asks for ErrForm, and no entry.
func none(t *testing.T, s string) {
	t.Helper()
	if got, e := entry.Read(s); e != api.ErrForm || got != (api.Entry{}) {
		t.Errorf("%.100x: %s, %d", s, told(got), e)
	}
}

// noneOfAll asks for ErrForm, and no entries.
func noneOfAll(t *testing.T, s string) {
	t.Helper()
	if got, e := entry.ReadAll(s); e != api.ErrForm || len(got) != 0 {
		t.Errorf("%.100x: %d entries, %d", s, len(got), e)
	}
}
