package line_test

import (
	"slices"
	"strconv"
	"testing"

	"tribunal/api"
	"tribunal/dag"
	"tribunal/line"
)

// spoilNames changes all names that a slice can reach.
func spoilNames(names []api.Id) {
	whole := names[:cap(names)]
	for i := range whole {
		whole[i] = filled(0x5a)
	}
}

// spoilRow changes all that a row, and the Preds in it, can reach.
func spoilRow(row []api.Op) {
	whole := row[:cap(row)]
	for i := range whole {
		spoilNames(whole[i].Preds)
		whole[i] = api.Op{Draft: draft(api.Set, "spoilt", "spoilt"), Author: 3, Depth: 77, Preds: whole[i].Preds}
	}
}

// spoilKeys changes all keys that a slice can reach.
func spoilKeys(keys []string) {
	whole := keys[:cap(keys)]
	for i := range whole {
		whole[i] = "spoilt"
	}
}

// sample is a set of a few operations that are present, a few of which have Preds, and one that waits.
func sample() (*dag.Set, []api.Op) {
	a, b := after("a"), made(draft(api.Set, "s", "b"))
	c := after("c", a, b)
	d := made(draft(api.Erase, "l", "d"), a, c)
	present := []api.Op{a, b, c, d, after("e", a, b, d)}
	return filledBy(append(present[:5:5], behind("w", 5, filled(1)))...), present
}

// P11.1, rule 3: what a caller does to results, and behind them, changes nothing of the set, nor of later results.
func TestResultsNotKept(t *testing.T) {
	s, present := sample()
	for range 2 {
		spoilNames(line.Order(s))
		like(t, s, present)
		spoilRow(line.Row(s))
		like(t, s, present)
		spoilRow(line.Of(s, "k", api.Add, api.Set))
		like(t, s, present)
		spoilKeys(line.Keys(s, api.Add, api.Set, api.Erase))
		like(t, s, present)
	}
	heads := s.Heads()
	for _, o := range present {
		if got, e := s.Get(named(o)[0]); e != api.OK || !same(got, o) {
			t.Errorf("%x: %x, %d", o, got, e)
		}
	}
	if !slices.Equal(heads, named(present[4])) || len(s.Waits()) != 1 {
		t.Errorf("%v, %v", short(heads), short(s.Waits()))
	}
}

// P11.1, rule 3: results share no memory with one another, nor do the Preds of one result's operations.
func TestResultsApart(t *testing.T) {
	s, present := sample()
	want := inOrder(present)
	names, row, part, keyed := line.Order(s), line.Row(s), line.Of(s, "k", api.Add), line.Keys(s, 1, 3, 5)
	spoilNames(line.Order(s))
	spoilRow(line.Row(s))
	spoilRow(line.Of(s, "k", api.Add))
	spoilKeys(line.Keys(s, 1, 3, 5))
	if !slices.Equal(names, named(want...)) || !slices.Equal(keyed, []string{"k", "l", "s"}) {
		t.Errorf("%v, %q", short(names), keyed)
	}
	rows(t, "Row", row, want)
	rows(t, "Of", part, of(want, "k", []int{api.Add}))
	spoilNames(names)
	spoilRow(part)
	rows(t, "Row", row, want)
}

// P11.1, rule 3: the Preds of the operations of one result share no memory, nor is there any of others behind them.
func TestPredsApart(t *testing.T) {
	list := []api.Op{after("0"), after("1")}
	for i := range 40 {
		list = append(list, after("behind"+strconv.Itoa(i), list[len(list)-2:]...))
	}
	s, want := filledBy(list...), inOrder(list)
	for _, call := range []func() []api.Op{
		func() []api.Op { return line.Row(s) },
		func() []api.Op { return line.Of(s, "k", api.Add, api.Set) },
	} {
		up, down := call(), call()
		for i := range want {
			last := len(want) - 1 - i
			spoilNames(up[i].Preds)
			spoilNames(down[last].Preds)
			rows(t, "those behind", up[i+1:], want[i+1:])
			rows(t, "those ahead", down[:last], want[:last])
		}
		rows(t, "a later result", call(), want)
	}
}

// P11.1, rule 3: the kinds, and what lies behind them, are not changed.
func TestKindsNotModified(t *testing.T) {
	s, present := sample()
	want := inOrder(present)
	whole := []int{5, 0, 3, 1, 1, top, bottom, 4, 2, 1}
	for size := range whole {
		kinds := slices.Clone(whole)
		rows(t, "Of", line.Of(s, "k", kinds[:size]...), of(want, "k", whole[:size]))
		if got := line.Keys(s, kinds[:size]...); !slices.Equal(got, keys(want, whole[:size])) {
			t.Errorf("%v: %q", whole[:size], got)
		}
		if !slices.Equal(kinds, whole) {
			t.Errorf("%v", kinds)
		}
	}
}

// P11.1, rule 4: calls change nothing of a set, and nothing is kept from one call to the next: sets are independent, and what one takes later is there.
func TestSetsUnchanged(t *testing.T) {
	s, present := sample()
	other := filledBy(after("other"))
	f := after("f", present[4])
	for _, taken := range []bool{false, true} {
		if taken {
			s.Take(f)
			present = append(present, f)
		}
		names, heads, waits := s.Names(), s.Heads(), s.Waits()
		for range 2 {
			like(t, s, present)
			like(t, other, []api.Op{after("other")})
			like(t, nil, nil)
		}
		if !slices.Equal(s.Names(), names) || !slices.Equal(s.Heads(), heads) || !slices.Equal(s.Waits(), waits) {
			t.Errorf("%v, %v, %v", short(s.Names()), short(s.Heads()), short(s.Waits()))
		}
	}
}
