package dag_test

import (
	"math"
	"slices"
	"strconv"
	"testing"

	"tribunal/api"
	"tribunal/dag"
	"tribunal/op"
)

// top and bottom are the greatest and the least number.
const (
	top    = math.MaxInt64
	bottom = math.MinInt64
)

// row is numbers that look like chance, the same ones in each run.
type row uint64

func (r *row) next(below int) int {
	*r = *r*6364136223846793005 + 1442695040888963407
	return int(uint64(*r)>>33) % below
}

// filled is the name whose bytes are all b: that of no operation here.
func filled(b byte) api.Id {
	var x api.Id
	for i := range x {
		x[i] = b
	}
	return x
}

// draft is one that is valid, of a value.
func draft(value string) api.Draft {
	return api.Draft{Kind: api.Add, Key: "k", Value: value}
}

// sorted are names in ascending order, in new memory.
func sorted(names ...api.Id) []api.Id {
	names = slices.Clone(names)
	slices.SortFunc(names, func(a, b api.Id) int {
		for i := range a {
			if a[i] != b[i] {
				return int(a[i]) - int(b[i])
			}
		}
		return 0
	})
	return names
}

// named are the names of operations, in their order.
func named(list ...api.Op) []api.Id {
	names := make([]api.Id, len(list))
	for i, o := range list {
		names[i] = op.Name(o)
	}
	return names
}

// after is an operation whose Preds are these, and whose depth is correct if theirs are.
func after(value string, preds ...api.Op) api.Op {
	o := api.Op{Draft: draft(value), Depth: 1, Preds: sorted(named(preds...)...)}
	for _, pred := range preds {
		o.Depth = max(o.Depth, pred.Depth+1)
	}
	return o
}

// behind is an operation of these Preds and this depth.
func behind(value string, depth int, preds ...api.Id) api.Op {
	return api.Op{Draft: draft(value), Depth: depth, Preds: sorted(preds...)}
}

// deep is an operation with another depth.
func deep(o api.Op, depth int) api.Op {
	o.Depth = depth
	return o
}

// below finds an operation, of those that make gives for values, whose name is below or above that of another one.
func below(is bool, other api.Op, make func(value string) api.Op) api.Op {
	for i := 0; ; i++ {
		o := make(strconv.Itoa(i))
		if slices.Equal(sorted(named(o, other)...), named(o, other)) == is {
			return o
		}
	}
}

// same tells whether two operations are the same; nil and empty Preds are.
func same(a, b api.Op) bool {
	return a.Draft == b.Draft && a.Author == b.Author && a.Depth == b.Depth && slices.Equal(a.Preds, b.Preds)
}

// short are the first bytes of names, for messages.
func short(names []api.Id) []string {
	list := make([]string, len(names))
	for i, name := range names {
		list[i] = strconv.FormatUint(uint64(name[0])<<16|uint64(name[1])<<8|uint64(name[2]), 16)
	}
	return list
}

// taken fails, unless Take returns just these names, in this order, and this error.
func taken(t *testing.T, s *dag.Set, o api.Op, e api.Errno, names ...api.Id) {
	t.Helper()
	if got, gotE := s.Take(o); gotE != e || !slices.Equal(got, names) {
		t.Errorf("Take of %x: %v, %d, not %v, %d", o, short(got), gotE, short(names), e)
	}
}

// holds fails, unless just these operations are present, in some order, and just these are waiting.
func holds(t *testing.T, s *dag.Set, present, waiting []api.Op) {
	t.Helper()
	if got, want := s.Names(), sorted(named(present...)...); !slices.Equal(got, want) {
		t.Errorf("present: %v, not %v", short(got), short(want))
	}
	if got, want := s.Waits(), sorted(named(waiting...)...); !slices.Equal(got, want) {
		t.Errorf("waiting: %v, not %v", short(got), short(want))
	}
	for _, o := range present {
		if got, e := s.Get(op.Name(o)); e != api.OK || !same(got, o) {
			t.Errorf("Get of %x: %x, %d", o, got, e)
		}
	}
	for _, o := range waiting {
		if got, e := s.Get(op.Name(o)); e != api.ErrNone || !same(got, api.Op{}) {
			t.Errorf("Get of %x, which waits: %x, %d", o, got, e)
		}
	}
}

// filledBy is a set that took these.
func filledBy(t *testing.T, list ...api.Op) *dag.Set {
	t.Helper()
	s := dag.New()
	for _, o := range list {
		if _, e := s.Take(o); e != api.OK {
			t.Fatalf("Take of %x: %d", o, e)
		}
	}
	return s
}

// model is a set as the chapter words it: lists that are searched from end to end.
type model struct{ present, waiting []api.Op }

// at is the place of a name in a list, or -1.
func at(list []api.Op, name api.Id) int {
	return slices.IndexFunc(list, func(o api.Op) bool { return op.Name(o) == name })
}

// lacks tells whether a Pred is not present.
func (m *model) lacks(o api.Op) bool {
	return slices.ContainsFunc(o.Preds, func(pred api.Id) bool { return at(m.present, pred) < 0 })
}

// correct is the correct depth of an operation with these Preds.
func (m *model) correct(preds []api.Id) int {
	depth := 1
	for _, pred := range preds {
		depth = max(depth, m.present[at(m.present, pred)].Depth+1)
	}
	return depth
}

func (m *model) take(o api.Op) ([]api.Id, api.Errno) {
	switch name := op.Name(o); {
	case !op.Good(o):
		return nil, api.ErrArg
	case at(m.present, name) >= 0 || at(m.waiting, name) >= 0:
		return nil, api.ErrTwice
	case m.lacks(o):
		m.waiting = append(m.waiting, o)
		return nil, api.OK
	case o.Depth != m.correct(o.Preds):
		return nil, api.ErrFalse
	}
	m.present = append(m.present, o)
	names := named(o)
	for {
		var ready []api.Id
		for _, o := range m.waiting {
			if !m.lacks(o) {
				ready = append(ready, op.Name(o))
			}
		}
		if len(ready) == 0 {
			return names, api.OK
		}
		i := at(m.waiting, sorted(ready...)[0])
		next := m.waiting[i]
		m.waiting = slices.Delete(m.waiting, i, i+1)
		if next.Depth == m.correct(next.Preds) {
			m.present = append(m.present, next)
			names = append(names, op.Name(next))
		}
	}
}

func (m *model) get(name api.Id) (api.Op, api.Errno) {
	if i := at(m.present, name); i >= 0 {
		return m.present[i], api.OK
	}
	return api.Op{}, api.ErrNone
}

func (m *model) heads() []api.Id {
	var list []api.Id
	for _, name := range named(m.present...) {
		if !slices.ContainsFunc(m.present, func(o api.Op) bool { return slices.Contains(o.Preds, name) }) {
			list = append(list, name)
		}
	}
	return sorted(list...)
}

func (m *model) past(name api.Id) []api.Id {
	var list []api.Id
	o, _ := m.get(name)
	for _, pred := range o.Preds {
		list = append(append(list, pred), m.past(pred)...)
	}
	return slices.Compact(sorted(list...))
}

func (m *model) next(author int, d api.Draft) (api.Op, api.Errno) {
	heads := m.heads()
	switch {
	case !op.GoodDraft(d) || author < 0 || author > 4:
		return api.Op{}, api.ErrArg
	case len(heads) > 32:
		return api.Op{}, api.ErrLong
	}
	return api.Op{Draft: d, Author: author, Depth: m.correct(heads), Preds: heads}, api.OK
}

// like fails, unless a set returns what the model does, for all these names.
func like(t *testing.T, s *dag.Set, m *model, names []api.Id) {
	t.Helper()
	holds(t, s, m.present, m.waiting)
	if got, want := s.Heads(), m.heads(); !slices.Equal(got, want) {
		t.Errorf("heads: %v, not %v", short(got), short(want))
	}
	for _, name := range names {
		got, e := s.Get(name)
		if want, wantE := m.get(name); e != wantE || !same(got, want) {
			t.Errorf("Get: %x, %d, not %x, %d", got, e, want, wantE)
		}
		if got, want := s.Past(name), m.past(name); !slices.Equal(got, want) {
			t.Errorf("past: %v, not %v", short(got), short(want))
		}
	}
	for author := -1; author < 6; author++ {
		d := draft("next")
		got, e := s.Next(author, d)
		if want, wantE := m.next(author, d); e != wantE || !same(got, want) {
			t.Errorf("Next: %x, %d, not %x, %d", got, e, want, wantE)
		}
	}
}
