package views_test

import (
	"slices"
	"testing"

	"tribunal/api"
	"tribunal/dag"
	"tribunal/op"
	"tribunal/views"
)

// spoil changes all strings that a slice can reach.
func spoil(list []string) {
	whole := list[:cap(list)]
	for i := range whole {
		whole[i] = "spoilt"
	}
}

// sample are operations of which a set has something for each call.
func sample() []api.Op {
	x, y, first := add("k", "x"), add("k", "y"), set("r", "1")
	return []api.Op{x, y, first, add("l", "x", x, y), drop("k", "x", x, first), set("q", "2", first), made(api.Insert, "k", "z"), lost(add("w", "w"))}
}

// P12.1, rule 3: what a caller does to results, and behind them, changes nothing of the set, nor of earlier or later results.
func TestResultsNotKept(t *testing.T) {
	list := sample()
	s, m := filledBy(list...), modelOf(list)
	calls := []func() []string{
		func() []string { return views.Members(s, "k") },
		func() []string { return views.Members(s, "l") },
		func() []string { return views.Sets(s) },
		func() []string { return views.Registers(s) },
	}
	for range 2 {
		var before [][]string
		for _, call := range calls {
			before = append(before, call())
		}
		for i, call := range calls {
			want := slices.Clone(before[i])
			spoil(call())
			if len(want) == 0 || !slices.Equal(before[i], want) {
				t.Errorf("%d: %q, not %q", i, before[i], want)
			}
			like(t, s, m)
		}
		for _, list := range before {
			spoil(list)
		}
		like(t, s, m)
	}
}

// P12.1, rules 3 and 4: calls change nothing of a set; nothing is kept from one call to the next, sets are independent, and what one takes later is there.
func TestSetsUnchanged(t *testing.T) {
	list := sample()
	s, other := filledBy(list...), filledBy(add("k", "other"), set("r", "other"))
	more := []api.Op{drop("k", "y", list[1]), by(1, drop("l", "x", list[3])), set("r", "", list[2]), add("m", "", list[0])}
	for i := range len(more) + 1 {
		if i > 0 {
			s.Take(more[i-1])
		}
		names, heads, waits := s.Names(), s.Heads(), s.Waits()
		for range 2 {
			like(t, s, modelOf(append(slices.Clone(list), more[:i]...)))
			like(t, other, modelOf([]api.Op{add("k", "other"), set("r", "other")}))
			like(t, nil, modelOf(nil))
		}
		if !slices.Equal(s.Names(), names) || !slices.Equal(s.Heads(), heads) || !slices.Equal(s.Waits(), waits) {
			t.Errorf("%d: the set has changed", i)
		}
		for _, o := range list[:7] {
			if got, e := s.Get(op.Name(o)); e != api.OK || got.Draft != o.Draft || !slices.Equal(got.Preds, o.Preds) {
				t.Errorf("%x: %x, %d", o, got, e)
			}
		}
	}
	sets(t, s, "m")
	value(t, s, "r", "", true)
	like(t, dag.New(), modelOf(nil))
}
