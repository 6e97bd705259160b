package dag_test

import (
	"slices"
	"strconv"
	"strings"
	"testing"

	"tribunal/api"
	"tribunal/dag"
	"tribunal/op"
)

// wide is a set of so many operations without Preds.
func wide(t *testing.T, count int) (*dag.Set, []api.Op) {
	t.Helper()
	var list []api.Op
	for i := range count {
		list = append(list, after(strconv.Itoa(i)))
	}
	return filledBy(t, list...), list
}

// badDrafts are drafts that are not valid.
func badDrafts() []api.Draft {
	return []api.Draft{
		{},
		{Kind: 0, Key: "k"},
		{Kind: 6, Key: "k"},
		{Kind: -1, Key: "k"},
		{Kind: api.Add},
		{Kind: api.Add, Key: strings.Repeat("k", 17)},
		{Kind: api.Set, Key: "k", Value: strings.Repeat("v", 65)},
		{Kind: api.Drop, Key: "k", Ref: filled(1)},
		{Kind: api.Erase, Key: "k"},
		{Kind: api.Erase, Key: "k", Value: "v", Ref: filled(1)},
	}
}

// P10.1: Next returns an operation whose Preds are all heads, up to 32 of them, which Take takes; ErrLong with more; it changes nothing itself.
func TestNext(t *testing.T) {
	for _, count := range []int{0, 1, 2, 31, 32, 33, 34, 64} {
		s, list := wide(t, count)
		want := api.Op{Draft: draft("next"), Author: 2, Depth: 2, Preds: sorted(named(list...)...)}
		if count == 0 {
			want.Depth = 1
		}
		e := api.OK
		if count > 32 {
			want, e = api.Op{}, api.ErrLong
		}
		for range 2 {
			if got, gotE := s.Next(2, draft("next")); gotE != e || !same(got, want) {
				t.Errorf("%d heads: %x, %d", count, got, gotE)
			}
			holds(t, s, list, nil)
		}
		if e == api.OK {
			taken(t, s, want, api.OK, op.Name(want))
			if got := s.Heads(); !slices.Equal(got, named(want)) {
				t.Errorf("heads: %x", got)
			}
		}
	}
}

// P10.1: an author that is not from 0 to 4 is ErrArg; it is the author of the operation otherwise.
func TestNextOfAuthors(t *testing.T) {
	for _, count := range []int{0, 1, 32} {
		s, list := wide(t, count)
		for _, author := range []int{bottom, -2, -1, 0, 1, 2, 3, 4, 5, 6, 256, top} {
			got, e := s.Next(author, draft("next"))
			if author < 0 || author > 4 {
				if e != api.ErrArg || !same(got, api.Op{}) {
					t.Errorf("author %d: %x, %d", author, got, e)
				}
			} else if want := after("next", list...); e != api.OK || got.Author != author || got.Draft != want.Draft || got.Depth != want.Depth || !slices.Equal(got.Preds, want.Preds) {
				t.Errorf("author %d: %x, %d", author, got, e)
			}
		}
	}
}

// P10.1: a draft that is not valid is ErrArg, also if there are too many heads; so is an author that can't be.
func TestNextOfBadDrafts(t *testing.T) {
	for _, count := range []int{0, 1, 32, 33} {
		s, list := wide(t, count)
		for _, d := range badDrafts() {
			for _, author := range []int{-1, 0, 4, 5} {
				if got, e := s.Next(author, d); e != api.ErrArg || !same(got, api.Op{}) {
					t.Errorf("%x: %x, %d", d, got, e)
				}
			}
		}
		for _, author := range []int{-1, 5} {
			if got, e := s.Next(author, draft("next")); e != api.ErrArg || !same(got, api.Op{}) {
				t.Errorf("author %d: %x, %d", author, got, e)
			}
		}
		holds(t, s, list, nil)
	}
}

// P10.1: drafts of all kinds are those of the operation.
func TestNextOfDrafts(t *testing.T) {
	s, list := wide(t, 2)
	for _, d := range []api.Draft{
		{Kind: api.Add, Key: strings.Repeat("k", 16), Value: strings.Repeat("v", 64)},
		{Kind: api.Drop, Key: "\x00"},
		{Kind: api.Set, Key: "k", Value: "\xff"},
		{Kind: api.Insert, Key: "k", Value: "v"},
		{Kind: api.Insert, Key: "k", Value: "v", Ref: filled(3)},
		{Kind: api.Erase, Key: "k", Ref: op.Name(list[0])},
	} {
		want := after("next", list...)
		want.Draft = d
		if got, e := s.Next(0, d); e != api.OK || !same(got, want) {
			t.Errorf("%x: %x, %d", d, got, e)
		}
	}
}

// P10.1: the depth is one more than the greatest one of the heads, whichever of them is named first.
func TestNextDepth(t *testing.T) {
	for _, is := range []bool{true, false} {
		a := after("a")
		b := after("b", a)
		c := after("c", b)
		lone := below(is, c, func(value string) api.Op { return after(value) })
		s := filledBy(t, a, lone, b, c)
		want := api.Op{Draft: draft("next"), Author: 1, Depth: 4, Preds: sorted(named(c, lone)...)}
		if got, e := s.Next(1, draft("next")); e != api.OK || !same(got, want) {
			t.Errorf("%x, %d", got, e)
		}
		taken(t, s, want, api.OK, op.Name(want))
	}
}

// P10.1: those that wait, and those that are not heads, are among no Preds; with fewer heads Next returns an operation again.
func TestNextAfterMany(t *testing.T) {
	s, list := wide(t, 33)
	w := behind("w", 2, filled(1))
	taken(t, s, w, api.OK)
	join := after("join", list[1:]...)
	taken(t, s, join, api.OK, op.Name(join))
	want := after("next", list[0], join)
	if got, e := s.Next(0, draft("next")); e != api.OK || !same(got, want) {
		t.Errorf("%x, %d", got, e)
	}
	taken(t, s, want, api.OK, op.Name(want))
	holds(t, s, append(list, join, want), []api.Op{w})
}

// P10.1: what Next returns is taken, time after time, and is the only head then.
func TestNextAgainAndAgain(t *testing.T) {
	s := dag.New()
	var list []api.Op
	for i := range 50 {
		o, e := s.Next(i%5, draft("same"))
		if e != api.OK || o.Depth != i+1 || i > 0 && !slices.Equal(o.Preds, named(list[i-1])) {
			t.Fatalf("%d: %x, %d", i, o, e)
		}
		taken(t, s, o, api.OK, op.Name(o))
		list = append(list, o)
		if got := s.Heads(); !slices.Equal(got, named(o)) {
			t.Errorf("heads: %x", got)
		}
	}
	holds(t, s, list, nil)
}
