package entry_test

import (
	"strings"
	"testing"

	"tribunal/api"
	"tribunal/entry"
)

// spelt is an entry beside its bytes, that are written out.
type spelt struct {
	e api.Entry
	s string
}

// allSpelt are entries of each Kind beside their bytes.
func allSpelt() []spelt {
	zeros, nines, ones := strings.Repeat("\x00", 32), strings.Repeat("\x09", 32), strings.Repeat("\xff", 32)
	return []spelt{
		{
			api.Entry{Kind: api.Local, Draft: api.Draft{Kind: api.Add, Key: "k", Value: "v"}},
			// Two strings: Kind, of 2 bytes; the draft, of 46 bytes: four strings, of 2, 1, 1 and 32 bytes.
			"\x01\x02" + "\x01\x02\x01\x01" + "\x01\x2e" + "\x01\x04" + "\x01\x02\x01\x01" + "\x01\x01k" + "\x01\x01v" + "\x01\x20" + zeros,
		},
		{
			api.Entry{Kind: api.Local, Draft: api.Draft{Kind: api.Erase, Key: "list", Ref: filled(0xff)}},
			"\x01\x02" + "\x01\x02\x01\x01" + "\x01\x2f" + "\x01\x04" + "\x01\x02\x01\x05" + "\x01\x04list" + "\x00" + "\x01\x20" + ones,
		},
		{
			api.Entry{Kind: api.Recv, From: 1, Seq: 7, Prev: filled(9), Mask: 5, Payload: "p", Sig: "sig"},
			"\x01\x07" + "\x01\x02\x01\x02" + "\x01\x02\x01\x01" + "\x01\x02\x01\x07" + "\x01\x20" + nines + "\x01\x02\x01\x05" + "\x01\x01p" + "\x01\x03sig",
		},
		{
			api.Entry{Kind: api.Recv, Seq: 1, Mask: 1},
			"\x01\x07" + "\x01\x02\x01\x02" + "\x01\x01\x00" + "\x01\x02\x01\x01" + "\x01\x20" + zeros + "\x01\x02\x01\x01" + "\x00" + "\x00",
		},
		{
			api.Entry{Kind: api.Recv, From: 4, Seq: top, Prev: filled(0xff), Mask: 31, Payload: strings.Repeat("p", 2048), Sig: strings.Repeat("s", 1024)},
			"\x01\x07" + "\x01\x02\x01\x02" + "\x01\x02\x01\x04" + "\x01\x09\x08\x7f\xff\xff\xff\xff\xff\xff\xff" + "\x01\x20" + ones + "\x01\x02\x01\x1f" + "\x02\x08\x00" + strings.Repeat("p", 2048) + "\x02\x04\x00" + strings.Repeat("s", 1024),
		},
		{
			api.Entry{Kind: api.Recv, From: 3, Seq: 258, Mask: 16, Payload: "\x00", Sig: "\xff"},
			"\x01\x07" + "\x01\x02\x01\x02" + "\x01\x02\x01\x03" + "\x01\x03\x02\x01\x02" + "\x01\x20" + zeros + "\x01\x02\x01\x10" + "\x01\x01\x00" + "\x01\x01\xff",
		},
		{
			api.Entry{Kind: api.Send, Mask: 31},
			"\x01\x03" + "\x01\x02\x01\x03" + "\x01\x02\x01\x1f" + "\x00",
		},
		{
			api.Entry{Kind: api.Send, Mask: 6, Payload: "\x00hi\xff"},
			"\x01\x03" + "\x01\x02\x01\x03" + "\x01\x02\x01\x06" + "\x01\x04\x00hi\xff",
		},
		{
			api.Entry{Kind: api.Send, Mask: 1, Payload: strings.Repeat("x", 2048)},
			"\x01\x03" + "\x01\x02\x01\x03" + "\x01\x02\x01\x01" + "\x02\x08\x00" + strings.Repeat("x", 2048),
		},
	}
}

// P15.1: Text of entries of each Kind is the bytes that are written out; Read of these bytes is the entry.
func TestTextWrittenOut(t *testing.T) {
	for i, c := range allSpelt() {
		if got := entry.Text(c.e); got != c.s {
			t.Errorf("%d: %.200x, want %.200x", i, got, c.s)
		}
		if got, e := entry.Read(c.s); e != api.OK || got != c.e {
			t.Errorf("%d: %s, %d", i, told(got), e)
		}
	}
}

// P15.1: Text of all that is valid is its encoding, and is not empty.
func TestText(t *testing.T) {
	for i, e := range good() {
		if got := entry.Text(e); got != encoded(e) || got == "" {
			t.Errorf("%d: %s: %.100x", i, told(e), got)
		}
	}
}

// P15.1: Text of what is not valid is empty.
func TestTextOfOthers(t *testing.T) {
	for i, e := range append(bad(), api.Entry{}) {
		if got := entry.Text(e); got != "" {
			t.Errorf("%d: %s: %.100x", i, told(e), got)
		}
	}
}

// P15.1: Texts of none, one and several is the bytes that are written out.
func TestTextsWrittenOut(t *testing.T) {
	c := allSpelt()
	for i, want := range []struct {
		list []api.Entry
		s    string
	}{
		{nil, "\x00"},
		{[]api.Entry{c[6].e}, "\x01\x01" + "\x01\x0b" + c[6].s},
		{[]api.Entry{c[7].e, c[0].e}, "\x01\x02" + "\x01\x10" + c[7].s + "\x01\x36" + c[0].s},
		{[]api.Entry{c[6].e, c[6].e, c[6].e}, "\x01\x03" + strings.Repeat("\x01\x0b"+c[6].s, 3)},
		{[]api.Entry{{}}, "\x01\x01\x00"},
		{[]api.Entry{c[6].e, {Kind: api.Send}, c[6].e}, "\x01\x03" + "\x01\x0b" + c[6].s + "\x00" + "\x01\x0b" + c[6].s},
	} {
		if got := entry.Texts(want.list...); got != want.s {
			t.Errorf("%d: %x, want %x", i, got, want.s)
		}
	}
}

// P15.1: Texts with one that is not valid, wherever it is, has an empty string for it; ReadAll of that is ErrForm, and no entries.
func TestTextsWithOneBad(t *testing.T) {
	right := good()
	for i, wrong := range bad() {
		count := 1 + i%4
		list := append([]api.Entry{}, right[i%20:i%20+count]...)
		list[i%count] = wrong
		var texts []string
		for at, e := range list {
			if at == i%count {
				texts = append(texts, "")
			} else {
				texts = append(texts, encoded(e))
			}
		}
		got := entry.Texts(list...)
		if got != listed(texts...) {
			t.Errorf("%s: %.100x", told(wrong), got)
		}
		noneOfAll(t, got)
	}
}
