package dag_test

import (
	"slices"
	"testing"

	"tribunal/api"
	"tribunal/dag"
	"tribunal/op"
)

// spoil changes all names that a slice can reach.
func spoil(names []api.Id) {
	for i := range names[:cap(names)] {
		names[:cap(names)][i] = filled(0x5a)
	}
}

// roomy is an operation the slice of whose Preds has spare capacity, beside the whole of it.
func roomy(o api.Op) (api.Op, []api.Id) {
	whole := append(slices.Clone(o.Preds), filled(0x11), filled(0x22), filled(0x33))
	o.Preds = whole[:len(o.Preds)]
	return o, whole
}

// sample is a set of a few that are present and a few that wait, and a model of it.
func sample(t *testing.T) (*dag.Set, *model) {
	t.Helper()
	a, b := after("a"), after("b")
	c := after("c", a, b)
	d := after("d", a, c)
	w := behind("w", 5, op.Name(d), filled(1))
	m := &model{present: []api.Op{a, b, c, d}, waiting: []api.Op{w, after("v", w, a)}}
	return filledBy(t, append(m.present[:4:4], m.waiting...)...), m
}

// P10.1, rule 3: Take changes neither the Preds nor what lies behind them, whatever comes of the operation.
func TestPredsNotModified(t *testing.T) {
	a, b := after("a"), after("b")
	for _, o := range []api.Op{a, after("o", a, b), deep(after("o", a), 3), behind("o", 3, filled(1), op.Name(a)), deep(after("o", a, b), 1)} {
		s := filledBy(t, a, b, behind("w", 3, op.Name(o), filled(9)))
		given, whole := roomy(o)
		before := slices.Clone(whole)
		for range 2 {
			s.Take(given)
		}
		s.Heads()
		s.Past(op.Name(o))
		if !slices.Equal(whole, before) || !same(given, o) {
			t.Errorf("%x: %x", o, whole)
		}
	}
}

// P10.1, rule 3: what a caller does to the Preds after Take is not seen, neither of those that are present nor of those that wait.
func TestPredsNotKept(t *testing.T) {
	_, m := sample(t)
	s := dag.New()
	for _, o := range m.waiting {
		given, whole := roomy(o)
		taken(t, s, given, api.OK)
		spoil(whole)
	}
	for _, o := range m.present {
		given, whole := roomy(o)
		taken(t, s, given, api.OK, op.Name(o))
		spoil(whole)
	}
	like(t, s, m, named(append(m.present, m.waiting...)...))
	e := behind("e", 2, filled(2))
	given, whole := roomy(e)
	s = filledBy(t, given)
	spoil(whole)
	holds(t, s, nil, []api.Op{e})
}

// P10.1, rule 3: what a caller does to results, and behind them, is not seen.
func TestResultsNotKept(t *testing.T) {
	s, m := sample(t)
	all := named(append(m.present[:4:4], m.waiting...)...)
	for _, name := range all {
		o, _ := s.Get(name)
		spoil(o.Preds)
		spoil(s.Past(name))
		spoil(s.Names())
		spoil(s.Heads())
		spoil(s.Waits())
		o, _ = s.Next(0, draft("next"))
		spoil(o.Preds)
		like(t, s, m, all)
	}
	f := after("f", m.present[3])
	got, e := s.Take(f)
	spoil(got)
	m.present = append(m.present, f)
	if e != api.OK {
		t.Errorf("%d", e)
	}
	like(t, s, m, named(append(m.present[:5:5], m.waiting...)...))
}

// P10.1, rule 3: results share no memory with one another.
func TestResultsApart(t *testing.T) {
	s, m := sample(t)
	d := op.Name(m.present[3])
	preds := func() []api.Id {
		o, _ := s.Get(d)
		return o.Preds
	}
	next := func() []api.Id {
		o, _ := s.Next(0, draft("next"))
		return o.Preds
	}
	for i, call := range []func() []api.Id{s.Names, s.Heads, s.Waits, func() []api.Id { return s.Past(d) }, preds, next} {
		a, b := call(), call()
		before := slices.Clone(b)
		spoil(a)
		if len(b) == 0 || !slices.Equal(b, before) {
			t.Errorf("%d: %x", i, b)
		}
	}
	heads := s.Heads()
	o, _ := s.Next(0, draft("next"))
	taken(t, s, o, api.OK, op.Name(o))
	spoil(o.Preds)
	if got, e := s.Get(named(after("next", m.present[3]))[0]); e != api.OK || !slices.Equal(got.Preds, heads) {
		t.Errorf("%x, %d", got, e)
	}
}

// P10.1, rule 2: a call that fails, and a call that only asks, leaves a set as it is.
func TestUnchanged(t *testing.T) {
	s, m := sample(t)
	all := named(append(m.present[:4:4], m.waiting...)...)
	for _, o := range append(invalid(m.present[0], m.present[1]), m.present[2], m.waiting[1], deep(after("x", m.present[1]), 3)) {
		if got, e := s.Take(o); e == api.OK || len(got) != 0 {
			t.Errorf("%x: %x, %d", o, got, e)
		}
		s.Next(9, draft("next"))
		s.Next(0, api.Draft{})
		s.Get(filled(1))
		s.Past(filled(1))
		like(t, s, m, all)
	}
}
