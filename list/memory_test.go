package list_test

import (
	"slices"
	"testing"

	"tribunal/api"
	"tribunal/dag"
	"tribunal/list"
	"tribunal/op"
)

// spoil changes all that a slice can reach.
func spoil[T any](all []T, bad T) {
	whole := all[:cap(all)]
	for i := range whole {
		whole[i] = bad
	}
}

// sample are operations of which a set has something for each call.
func sample() []api.Op {
	x := insert("k", "x", start)
	y := behind(x, "y")
	z := behind(y, "z")
	return []api.Op{x, y, z, without(y), insert("l", "", start, x), add("k", "x"), insert("m", "m", start), lost(insert("w", "w", start))}
}

// P13.1, rule 3: what a caller does to results, and behind them, changes nothing of the set, nor of earlier or later results.
func TestResultsNotKept(t *testing.T) {
	ops := sample()
	s, m := filledBy(ops...), modelOf(ops)
	bad := list.Item{Id: filled(9), Value: "spoilt", Gone: true}
	for range 3 {
		before, read, keys := list.Items(s, "k"), list.Read(s, "k"), list.Lists(s)
		spoil(list.Items(s, "k"), bad)
		spoil(list.Items(s, "l"), bad)
		spoil(list.Read(s, "k"), "spoilt")
		spoil(list.Lists(s), "spoilt")
		if !slices.Equal(before, m.items("k")) || !slices.Equal(read, []string{"x", "z"}) || !slices.Equal(keys, []string{"k", "l", "m"}) {
			t.Errorf("%v, %q, %q", before, read, keys)
		}
		like(t, s, m)
		spoil(before, bad)
		spoil(read, "spoilt")
		spoil(keys, "spoilt")
		like(t, s, m)
	}
}

// P13.1, rules 3 and 4: calls change nothing of a set; nothing is kept from one call to the next, sets are independent, and what one takes later is there.
func TestSetsUnchanged(t *testing.T) {
	ops := sample()
	apart := []api.Op{insert("k", "other", start), insert("l", "other", op.Name(ops[4]))}
	s, other := filledBy(ops...), filledBy(apart...)
	more := []api.Op{without(ops[0]), insert("k", "0", start, ops[1]), behind(ops[2], "1"), without(ops[4]), without(ops[6])}
	for i := range len(more) + 1 {
		if i > 0 {
			s.Take(more[i-1])
		}
		names, heads, waits := s.Names(), s.Heads(), s.Waits()
		for range 2 {
			like(t, s, modelOf(append(slices.Clone(ops), more[:i]...)))
			like(t, other, modelOf(apart))
			like(t, nil, modelOf(nil))
		}
		if !slices.Equal(s.Names(), names) || !slices.Equal(s.Heads(), heads) || !slices.Equal(s.Waits(), waits) {
			t.Errorf("%d: the set has changed", i)
		}
		for _, o := range ops[:7] {
			if got, e := s.Get(op.Name(o)); e != api.OK || got.Draft != o.Draft || !slices.Equal(got.Preds, o.Preds) {
				t.Errorf("%x: %x, %d", o, got, e)
			}
		}
	}
	lists(t, s, "k")
	like(t, dag.New(), modelOf(nil))
}
