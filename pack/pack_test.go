package pack_test

import (
	"math"
	"slices"
	"strings"
	"testing"

	"tribunal/api"
	"tribunal/pack"
)

// number is a number beside the bytes that the chapter asks for.
type number struct {
	n int
	s string
}

func numbers() []number {
	return []number{
		{0, "\x00"},
		{1, "\x01\x01"},
		{127, "\x01\x7f"},
		{128, "\x01\x80"},
		{255, "\x01\xff"},
		{256, "\x02\x01\x00"},
		{258, "\x02\x01\x02"},
		{65535, "\x02\xff\xff"},
		{65536, "\x03\x01\x00\x00"},
		{1<<24 - 1, "\x03\xff\xff\xff"},
		{1 << 24, "\x04\x01\x00\x00\x00"},
		{1 << 31, "\x04\x80\x00\x00\x00"},
		{1<<32 - 1, "\x04\xff\xff\xff\xff"},
		{1 << 32, "\x05\x01\x00\x00\x00\x00"},
		{0x0102030405060708, "\x08\x01\x02\x03\x04\x05\x06\x07\x08"},
		{1<<56 - 1, "\x07\xff\xff\xff\xff\xff\xff\xff"},
		{1 << 56, "\x08\x01\x00\x00\x00\x00\x00\x00\x00"},
		{math.MaxInt64, "\x08\x7f\xff\xff\xff\xff\xff\xff\xff"},
	}
}

// wrongNumbers are bytes that no number's encoding begins.
func wrongNumbers() []string {
	return []string{
		"",
		"\x01",
		"\x02\x01",
		"\x08\x01\x02\x03\x04\x05\x06\x07",
		"\x01\x00",
		"\x02\x00\x01",
		"\x08\x00\x01\x02\x03\x04\x05\x06\x07",
		"\x08\x80\x00\x00\x00\x00\x00\x00\x00",
		"\x08\xff\xff\xff\xff\xff\xff\xff\xff",
		"\x09\x01\x00\x00\x00\x00\x00\x00\x00\x00",
		"\x09\x00\x00\x00\x00\x00\x00\x00\x00\x01",
		"\xff",
		"\xff" + strings.Repeat("\x01", 255),
		"\xff" + strings.Repeat("\x00", 254) + "\x01",
	}
}

// hasFailed reports whether the reader has no bytes left, and remains failed, whatever is asked.
func hasFailed(r *pack.Reader) bool {
	for range 2 {
		if r.End() != api.ErrForm || r.Num() != 0 || r.Text() != "" || len(r.List()) != 0 {
			return false
		}
	}
	return r.End() == api.ErrForm
}

// P1.1: Num, for numbers of each size, and negative ones.
func TestNum(t *testing.T) {
	for _, c := range numbers() {
		if s := pack.Num(c.n); s != c.s {
			t.Errorf("Num(%d) = %x, want %x", c.n, s, c.s)
		}
	}
	for _, n := range []int{-1, -255, -256, math.MinInt64 + 1, math.MinInt64} {
		if s := pack.Num(n); s != "\x00" {
			t.Errorf("Num(%d) = %x", n, s)
		}
	}
}

// P1.1: Text, for an empty string, any bytes, and lengths beyond one byte.
func TestText(t *testing.T) {
	for _, c := range []struct{ s, want string }{
		{"", "\x00"},
		{"hi", "\x01\x02hi"},
		{"\x00", "\x01\x01\x00"},
		{"\xff\xfe", "\x01\x02\xff\xfe"},
		{strings.Repeat("a", 255), "\x01\xff" + strings.Repeat("a", 255)},
		{strings.Repeat("a", 256), "\x02\x01\x00" + strings.Repeat("a", 256)},
		{strings.Repeat("a", api.MaxText+1), "\x03\x04\x00\x01" + strings.Repeat("a", api.MaxText+1)},
	} {
		if s := pack.Text(c.s); s != c.want {
			t.Errorf("Text of %d bytes: %d bytes, want %d", len(c.s), len(s), len(c.want))
		}
	}
}

// P1.1: List, for empty lists, empty strings, and more strings than a reader takes.
func TestList(t *testing.T) {
	for _, c := range []struct {
		list []string
		want string
	}{
		{nil, "\x00"},
		{[]string{}, "\x00"},
		{[]string{""}, "\x01\x01\x00"},
		{[]string{"hi"}, "\x01\x01\x01\x02hi"},
		{[]string{"a", "", "bc"}, "\x01\x03\x01\x01a\x00\x01\x02bc"},
		{make([]string, api.MaxParts+1), "\x02\x10\x01" + strings.Repeat("\x00", api.MaxParts+1)},
	} {
		if s := pack.List(c.list...); s != c.want {
			t.Errorf("List of %d strings: %x", len(c.list), s)
		}
	}
}

// P1.1: List leaves its argument and what lies behind it as they are.
func TestListChangesNothing(t *testing.T) {
	all := []string{"a", "b", "c", "d"}
	pack.List(all[:2]...)
	if !slices.Equal(all, []string{"a", "b", "c", "d"}) {
		t.Errorf("%q", all)
	}
}

// P1.1: the reader's Num returns what was encoded, and consumes nothing else.
func TestReadNum(t *testing.T) {
	for _, c := range numbers() {
		r := pack.Open(c.s)
		if n := r.Num(); n != c.n || r.End() != api.OK {
			t.Errorf("%x: %d, end %d", c.s, n, r.End())
		}
		r = pack.Open(c.s + "\x01\x07")
		if n := r.Num(); n != c.n || r.End() != api.ErrForm {
			t.Errorf("%x and more: %d, end %d", c.s, n, r.End())
		}
		if n := r.Num(); n != 7 || r.End() != api.OK {
			t.Errorf("behind %x: %d, end %d", c.s, n, r.End())
		}
	}
}

// P1.1: the reader fails at what is no number, whichever item it is asked for.
func TestReadWrongNum(t *testing.T) {
	for _, s := range wrongNumbers() {
		r := pack.Open(s)
		if r.Num() != 0 || !hasFailed(r) {
			t.Errorf("Num of %x", s)
		}
		r = pack.Open(s)
		if r.Text() != "" || !hasFailed(r) {
			t.Errorf("Text of %x", s)
		}
		r = pack.Open(s)
		if len(r.List()) != 0 || !hasFailed(r) {
			t.Errorf("List of %x", s)
		}
		r = pack.Open("\x01\x01" + s)
		if len(r.List()) != 0 || !hasFailed(r) {
			t.Errorf("List of one, %x", s)
		}
		if list, e := pack.Split(s); len(list) != 0 || e != api.ErrForm {
			t.Errorf("Split of %x: %q, %d", s, list, e)
		}
	}
}

// P1.1: the reader's Text, whole, and with bytes missing.
func TestReadText(t *testing.T) {
	for _, want := range []string{"", "x", "\x00\x09", strings.Repeat("ab", 300)} {
		s := pack.Text(want)
		r := pack.Open(s)
		if got := r.Text(); got != want || r.End() != api.OK {
			t.Errorf("%d bytes: %d bytes, end %d", len(want), len(got), r.End())
		}
	}
	for _, s := range []string{
		"\x01\x01",
		"\x01\x03ab",
		"\x03\xff\xff\xffab",
		"\x08\x7f\xff\xff\xff\xff\xff\xff\xffab",
	} {
		r := pack.Open(s)
		if r.Text() != "" || !hasFailed(r) {
			t.Errorf("Text of %x", s)
		}
	}
}

// P1.1: the reader's List, whole, and with strings missing.
func TestReadList(t *testing.T) {
	for _, want := range [][]string{nil, {""}, {"hi"}, {"a", "", "bc"}, {"", "", ""}} {
		r := pack.Open(pack.List(want...) + "\x00")
		if got := r.List(); !slices.Equal(got, want) || r.End() != api.ErrForm {
			t.Errorf("%q: %q, end %d", want, got, r.End())
		}
		if r.Num() != 0 || r.End() != api.OK {
			t.Errorf("behind %q", want)
		}
	}
	for _, s := range []string{
		"\x01\x01",
		"\x01\x02\x01\x01a",
		"\x01\x02\x01\x01a\x01\x02b",
		"\x02\x10\x00",
		"\x08\x7f\xff\xff\xff\xff\xff\xff\xff",
	} {
		r := pack.Open(s)
		if len(r.List()) != 0 || !hasFailed(r) {
			t.Errorf("List of %x", s)
		}
	}
}

// P1.1: MaxParts strings are a list, one more aren't, though all of them are there.
func TestMaxParts(t *testing.T) {
	s := pack.List(make([]string, api.MaxParts)...)
	r := pack.Open(s)
	if n := len(r.List()); n != api.MaxParts || r.End() != api.OK {
		t.Errorf("%d strings, end %d", n, r.End())
	}
	if list, e := pack.Split(s); len(list) != api.MaxParts || e != api.OK {
		t.Errorf("Split: %d strings, %d", len(list), e)
	}
	s = pack.List(make([]string, api.MaxParts+1)...)
	r = pack.Open(s)
	if len(r.List()) != 0 || !hasFailed(r) {
		t.Error("one more is a list")
	}
	if list, e := pack.Split(s); len(list) != 0 || e != api.ErrForm {
		t.Errorf("Split of one more: %d strings, %d", len(list), e)
	}
}

// P1.1: MaxText bytes are read, one more aren't, though they are a string's, or a list's.
func TestMaxText(t *testing.T) {
	most := strings.Repeat("z", api.MaxText-4)
	s := pack.Text(most)
	if len(s) != api.MaxText {
		t.Fatalf("%d bytes", len(s))
	}
	r := pack.Open(s)
	if r.Text() != most || r.End() != api.OK {
		t.Error("MaxText bytes aren't read")
	}
	r = pack.Open(pack.Text(most + "z"))
	if !hasFailed(r) {
		t.Error("one more is read")
	}

	most = most[2:]
	s = pack.List(most)
	if len(s) != api.MaxText {
		t.Fatalf("%d bytes", len(s))
	}
	if list, e := pack.Split(s); e != api.OK || !slices.Equal(list, []string{most}) {
		t.Errorf("Split of MaxText bytes: %d strings, %d", len(list), e)
	}
	if list, e := pack.Split(pack.List(most + "z")); len(list) != 0 || e != api.ErrForm {
		t.Errorf("Split of one more: %d strings, %d", len(list), e)
	}

	// A valid item ahead doesn't help: too many bytes fail from the start.
	r = pack.Open("\x01\x07" + strings.Repeat("\x00", api.MaxText-1))
	if r.Num() != 0 || !hasFailed(r) {
		t.Error("a number ahead of too many bytes is read")
	}
}

// P1.1: a nil reader.
func TestNilReader(t *testing.T) {
	var r *pack.Reader
	if r.End() != api.ErrNil || r.Num() != 0 || r.Text() != "" || len(r.List()) != 0 || r.End() != api.ErrNil {
		t.Error("a nil reader has something")
	}
}

// P1.1: a reader that has failed reads nothing more, though an item lies behind the fault, or in it.
func TestFailedReader(t *testing.T) {
	behind := pack.Num(5) + pack.Text("hi") + pack.List("a")
	r := pack.Open("\x01\x00" + behind)
	if r.Num() != 0 || !hasFailed(r) {
		t.Error("Num goes on behind a fault")
	}
	r = pack.Open("\x01\x7f" + behind)
	if r.Text() != "" || !hasFailed(r) {
		t.Error("Text goes on behind a fault")
	}
	r = pack.Open("\x01\x7f" + behind)
	if len(r.List()) != 0 || !hasFailed(r) {
		t.Error("List goes on behind a fault")
	}
}

// P1.1: End says OK only at the end, changes nothing, and an empty input is at its end.
func TestEnd(t *testing.T) {
	if e := pack.Open("").End(); e != api.OK {
		t.Errorf("of nothing: %d", e)
	}
	r := pack.Open("\x00\x01\x01")
	if r.End() != api.ErrForm || r.Num() != 0 || r.End() != api.ErrForm || r.Num() != 1 || r.End() != api.OK || r.End() != api.OK {
		t.Error("End isn't told by what is left")
	}
	if r.Num() != 0 || !hasFailed(r) {
		t.Error("there is a number behind the end")
	}
}

// P1.1: Split, of bytes that are a list, and of such that are none, or more.
func TestSplit(t *testing.T) {
	for _, want := range [][]string{nil, {""}, {"hi"}, {"a", "", "bc"}} {
		s := pack.List(want...)
		if list, e := pack.Split(s); e != api.OK || !slices.Equal(list, want) {
			t.Errorf("%x: %q, %d", s, list, e)
		}
		for i := range len(s) {
			if list, e := pack.Split(s[:i]); len(list) != 0 || e != api.ErrForm {
				t.Errorf("%x: %q, %d", s[:i], list, e)
			}
		}
		for _, more := range []string{"\x00", "x", s} {
			if list, e := pack.Split(s + more); len(list) != 0 || e != api.ErrForm {
				t.Errorf("%x: %q, %d", s+more, list, e)
			}
		}
	}
}

// P1.1: results share nothing: what is done to one isn't seen in another one.
func TestResultsAreNew(t *testing.T) {
	s := pack.List("a", "b")
	one, _ := pack.Split(s)
	one[0] = "x"
	if two, e := pack.Split(s); e != api.OK || !slices.Equal(two, []string{"a", "b"}) {
		t.Errorf("%q, %d", two, e)
	}
	r := pack.Open(s + s)
	first := r.List()
	second := r.List()
	first[0] = "x"
	_ = append(first, "y")
	if !slices.Equal(second, []string{"a", "b"}) || r.End() != api.OK {
		t.Errorf("%q", second)
	}
}

// P1.1: two readers of the same bytes know nothing of each other.
func TestReadersAreIndependent(t *testing.T) {
	s := pack.Num(1) + pack.Num(2)
	a, b := pack.Open(s), pack.Open(s)
	if a.Num() != 1 || a.Num() != 2 || a.Num() != 0 || b.Num() != 1 || b.Num() != 2 {
		t.Error("they share their place")
	}
	if a.End() != api.ErrForm || b.End() != api.OK {
		t.Error("they share their fault")
	}
}
