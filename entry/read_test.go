package entry_test

import (
	"slices"
	"strings"
	"testing"

	"tribunal/api"
	"tribunal/entry"
	"tribunal/op"
	"tribunal/pack"
)

// listed is the list of texts, as bytes.
func listed(texts ...string) string {
	return pack.List(texts...)
}

// few are valid entries with short encodings, at least one of each Kind of entry and of draft.
func few() []api.Entry {
	var list []api.Entry
	for _, e := range good() {
		if len(encoded(e)) < 160 {
			list = append(list, e)
		}
	}
	return append(list[:9:9], list[60:]...)
}

// other calls f with s, cut at every place, with bytes added in front and behind, and with any one byte changed.
func other(s string, f func(s string)) {
	for i := range len(s) {
		f(s[:i])
		f(s[i+1:])
		f(s[:i] + s[i+1:])
	}
	for _, more := range []string{"\x00", "\x01", "\x01\x03", "\xff", s} {
		f(s + more)
		f(more + s)
	}
	for i := range len(s) {
		for b := range 256 {
			if byte(b) != s[i] {
				f(s[:i] + string([]byte{byte(b)}) + s[i+1:])
			}
		}
	}
}

// P15.1: Read of the encoding of each valid entry is the entry.
func TestRead(t *testing.T) {
	for i, e := range good() {
		if got, failed := entry.Read(encoded(e)); failed != api.OK || got != e {
			t.Errorf("%d: %s: %s, %d", i, told(e), told(got), failed)
		}
	}
}

// P15.1: Read of each beginning of an encoding, of each end, and with bytes more is ErrForm.
func TestReadCut(t *testing.T) {
	for _, e := range append(few(), good()...) {
		s := encoded(e)
		step := 1 + len(s)/200
		for i := 0; i < len(s); i += step {
			none(t, s[:i])
			none(t, s[i+1:])
			none(t, s+s[:i+1])
		}
		none(t, s[:len(s)-1])
		for b := range 256 {
			none(t, s+string([]byte{byte(b)}))
		}
	}
}

// P15.1: Read of an encoding with one byte changed: an entry just where the reference has one, and then it has these bytes.
func TestReadChanged(t *testing.T) {
	count := 0
	for _, e := range few() {
		other(encoded(e), func(s string) {
			if read(t, s) {
				count++
			}
		})
	}
	if count < 1000 {
		t.Errorf("%d entries", count)
	}
}

// P15.1: Read of lists with a part too many or too few, wherever it is, is ErrForm; two entries together are none.
func TestReadOtherLists(t *testing.T) {
	for _, e := range few() {
		s := encoded(e)
		list, _ := pack.Split(s)
		for i := range len(list) + 1 {
			none(t, listed(list[:i%len(list)]...))
			for _, more := range []string{"", "\x00", "\x01\x01", "k", strings.Repeat("\x00", 32), list[i%len(list)], s} {
				none(t, listed(slices.Insert(slices.Clone(list), i, more)...))
			}
		}
		for i := range list {
			none(t, listed(slices.Delete(slices.Clone(list), i, i+1)...))
		}
		none(t, listed(append(list, list...)...))
		none(t, listed(s))
		none(t, strings.Join(list, ""))
		none(t, pack.Text(s))
		none(t, s+s)
	}
}

// P15.1: Read of an encoding with another Kind's number is ErrForm.
func TestReadOtherKind(t *testing.T) {
	for _, e := range few() {
		list, _ := pack.Split(encoded(e))
		for _, kind := range []int{0, 1, 2, 3, 4, 5, 256 + e.Kind, 1<<32 + e.Kind, top} {
			list[0] = pack.Num(kind)
			if kind != e.Kind {
				none(t, listed(list...))
			} else if !read(t, listed(list...)) {
				t.Errorf("%v isn't read", e)
			}
		}
	}
}

// numeral is bytes where a number is asked for, beside whether they are one alone.
type numeral struct {
	s  string
	is bool
}

// numerals are bytes that are a number, and such as are none: not in the shortest form, cut, too great, with bytes behind.
func numerals(n int) []numeral {
	right := pack.Num(n)
	return []numeral{
		{right, true},
		{"", false},
		{right[:1], n == 0},
		{right + "\x00", false},
		{right + "\x01", false},
		{right + right, false},
		{"\x00" + right, false},
		{string([]byte{right[0] + 1}) + "\x00" + right[1:], false},
		{"\x08" + strings.Repeat("\x00", 9-len(right)) + right[1:], len(right) == 9},
		{"\x08\x80" + strings.Repeat("\x00", 6) + "\x01", false},
		{"\x09" + strings.Repeat("\x00", 9-len(right)) + "\x00" + right[1:], false},
	}
}

// P15.1: numbers that aren't encoded shortest, or have something behind them, wherever an entry has one, are ErrForm.
func TestReadNumbers(t *testing.T) {
	check := func(list []string, at, n int) {
		for _, c := range numerals(n) {
			list := slices.Clone(list)
			list[at] = c.s
			if read(t, listed(list...)) != c.is {
				t.Errorf("%x at %d, for %d: %v", c.s, at, n, !c.is)
			}
		}
	}
	for _, e := range few() {
		list, _ := pack.Split(encoded(e))
		check(list, 0, e.Kind)
		switch e.Kind {
		case 2:
			check(list, 1, e.From)
			check(list, 2, e.Seq)
			check(list, 4, e.Mask)
		case 3:
			check(list, 1, e.Mask)
		}
	}
}

// P15.1: a Prev has 32 bytes, neither less nor more.
func TestReadPrev(t *testing.T) {
	for _, e := range []api.Entry{recv(), {Kind: 2, Seq: 1, Mask: 1}} {
		list, _ := pack.Split(encoded(e))
		for size := range 100 {
			for _, b := range []string{"\x00", "\x09", "\xff"} {
				list[3] = strings.Repeat(b, size)
				if read(t, listed(list...)) != (size == 32) {
					t.Errorf("a Prev of %d bytes: %v", size, size != 32)
				}
			}
		}
	}
}

// P15.1: what has the form of an encoding, but of an entry that is not valid, is ErrForm.
func TestReadOfOthers(t *testing.T) {
	zeros := strings.Repeat("\x00", 32)
	for _, d := range badDrafts() {
		none(t, listed("\x01\x01", op.DraftText(d)))
	}
	for _, s := range []string{"", "\x00", "k", zeros, listed(), listed("", "", "", "")} {
		none(t, listed("\x01\x01", s))
	}
	for _, mask := range []int{0, 32, 33, 63, 256 + 1, 1 << 32, top} {
		none(t, listed("\x01\x03", pack.Num(mask), "p"))
		none(t, listed("\x01\x02", "\x00", "\x01\x01", zeros, pack.Num(mask), "p", "s"))
	}
	for _, from := range []int{5, 6, 31, 256, 1 << 32, top} {
		none(t, listed("\x01\x02", pack.Num(from), "\x01\x01", zeros, "\x01\x01", "p", "s"))
	}
	none(t, listed("\x01\x02", "\x00", "\x00", zeros, "\x01\x01", "p", "s"))
	for size := 2040; size < 2060; size++ {
		payload := strings.Repeat("p", size)
		if read(t, listed("\x01\x03", "\x01\x01", payload)) != (size <= 2048) {
			t.Errorf("a Send of %d bytes", size)
		}
		if read(t, listed("\x01\x02", "\x00", "\x01\x01", zeros, "\x01\x01", payload, "s")) != (size <= 2048) {
			t.Errorf("a Recv of %d bytes", size)
		}
	}
	for size := 1020; size < 1030; size++ {
		if read(t, listed("\x01\x02", "\x00", "\x01\x01", zeros, "\x01\x01", "p", strings.Repeat("s", size))) != (size <= 1024) {
			t.Errorf("a Sig of %d bytes", size)
		}
	}
}

// P15.1: bytes of other things, and bytes that are drawn, are ErrForm.
func TestReadOfOtherBytes(t *testing.T) {
	alien := []string{
		"", "\x00", "\x01", "\x01\x02", "\x01\x03", "\x01\x07", "\x02\x00\x03", "\x01\x00", "\x08\x7f\xff\xff\xff\xff\xff\xff\xff", "k",
		strings.Repeat("\xff", 100), strings.Repeat("\x00", 100), strings.Repeat("\x01", 100), strings.Repeat("\x01\x03", 50),
		listed(""), listed("", ""), listed("", "", ""), listed(make([]string, 7)...), listed(make([]string, api.MaxParts)...), listed(make([]string, api.MaxParts+1)...),
		listed(strings.Repeat("x", api.MaxText)), strings.Repeat("\x00", api.MaxText+1), listed("\x01\x03", "\x01\x01", strings.Repeat("x", api.MaxText)),
		op.DraftText(drafts()[0]), op.Text(api.Op{Draft: drafts()[0], Depth: 1}), op.Batch(api.Op{Draft: drafts()[0], Depth: 1}),
	}
	for _, s := range alien {
		none(t, s)
	}
	for _, e := range few() {
		none(t, entry.Texts(e))
		none(t, entry.Texts(e, e))
	}
	var chance row = 3
	for range 20000 {
		s := chance.text(chance.next(60))
		read(t, s)
		readAll(t, s)
		read(t, "\x01\x03\x01\x02\x01\x03"+s)
		read(t, "\x01\x03\x01\x02\x01\x03\x01\x02\x01\x01"+s)
	}
}

// P15.1: ReadAll of none, one and several.
func TestReadAll(t *testing.T) {
	list := good()
	for _, count := range []int{0, 1, 2, 3, 10, len(list)} {
		var texts []string
		for _, e := range list[:count] {
			texts = append(texts, encoded(e))
		}
		got, e := entry.ReadAll(listed(texts...))
		if e != api.OK || !slices.Equal(got, list[:count]) {
			t.Errorf("%d entries: %d, %d", count, len(got), e)
		}
		if entry.Texts(list[:count]...) != listed(texts...) {
			t.Errorf("%d entries have other bytes", count)
		}
	}
}

// P15.1: ReadAll of bytes that are no list, or a list with one that is no entry's encoding, wherever it is, is ErrForm, and no entries.
func TestReadAllOfOthers(t *testing.T) {
	for _, s := range []string{"", "\x01", "\x01\x01", "\x00\x00", "\x01\x00", "k", strings.Repeat("\xff", 50), strings.Repeat("\x00", api.MaxText+1)} {
		noneOfAll(t, s)
	}
	right := encoded(recv())
	for _, wrong := range []string{"", "\x00", "k", right[1:], right[:len(right)-1], right + "\x00", listed(right), op.DraftText(drafts()[0]), listed("\x01\x03", "\x00", "p")} {
		for count := 1; count < 5; count++ {
			for at := range count {
				texts := slices.Repeat([]string{right}, count)
				texts[at] = wrong
				noneOfAll(t, listed(texts...))
			}
		}
	}
	for _, e := range few()[:3] {
		noneOfAll(t, encoded(e))
		s := entry.Texts(e, recv(), e)
		for i := range len(s) {
			noneOfAll(t, s[:i])
			noneOfAll(t, s+s[:i+1])
		}
	}
}

// P15.1: ReadAll of a list's bytes with any one byte changed: entries just where the reference has some.
func TestReadAllChanged(t *testing.T) {
	count := 0
	for _, list := range [][]api.Entry{{}, few()[:1], {few()[10], few()[0]}, {recv(), {Kind: 3, Mask: 1}, {Kind: 3, Mask: 31, Payload: "p"}}} {
		other(entry.Texts(list...), func(s string) {
			if readAll(t, s) {
				count++
			}
		})
	}
	if count < 1000 {
		t.Errorf("%d lists", count)
	}
}

// P15.1: as many entries as a list can have are read; one more is a list that can't be decoded.
func TestReadAllOfMany(t *testing.T) {
	one := api.Entry{Kind: 3, Mask: 7, Payload: "p"}
	list := slices.Repeat([]api.Entry{one}, api.MaxParts)
	if got, e := entry.ReadAll(entry.Texts(list...)); e != api.OK || !slices.Equal(got, list) {
		t.Errorf("%d, %d", len(got), e)
	}
	noneOfAll(t, entry.Texts(append(list, one)...))
	great := api.Entry{Kind: 3, Mask: 7, Payload: strings.Repeat("p", 2048)}
	each := len(pack.Text(entry.Text(great)))
	fit := (api.MaxText - 2) / each
	list = slices.Repeat([]api.Entry{great}, fit)
	if got, e := entry.ReadAll(entry.Texts(list...)); e != api.OK || !slices.Equal(got, list) {
		t.Errorf("%d, %d", len(got), e)
	}
	noneOfAll(t, entry.Texts(append(list, great)...))
}
