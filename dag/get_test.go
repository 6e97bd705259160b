package dag_test

import (
	"slices"
	"strconv"
	"testing"

	"tribunal/api"
	"tribunal/dag"
	"tribunal/op"
)

// P10.1: Get returns an operation that is present, with all that it has; ErrNone for what waits, and what is unknown.
func TestGet(t *testing.T) {
	a := api.Op{Draft: api.Draft{Kind: api.Insert, Key: "\x00k", Value: "v\xff", Ref: filled(7)}, Author: 4, Depth: 1}
	b := after("b")
	c := after("c", a, b)
	w := behind("w", 9, op.Name(c), filled(7))
	s := filledBy(t, a, b, c, w)
	for _, o := range []api.Op{c, a, b, a} {
		if got, e := s.Get(op.Name(o)); e != api.OK || !same(got, o) || op.Name(got) != op.Name(o) {
			t.Errorf("%x: %x, %d", o, got, e)
		}
	}
	last := op.Name(a)
	last[31] ^= 1
	for _, name := range []api.Id{op.Name(w), filled(7), {}, filled(0xff), last} {
		if got, e := s.Get(name); e != api.ErrNone || !same(got, api.Op{}) {
			t.Errorf("%x: %x, %d", name, got, e)
		}
	}
}

// P10.1: Names, Heads and Waits are in ascending order, bytewise, with many of each.
func TestAscending(t *testing.T) {
	s := dag.New()
	var present, waiting, heads []api.Op
	for i := range 300 {
		o := after("a" + strconv.Itoa(i))
		p := after("b"+strconv.Itoa(i), o)
		w := behind(strconv.Itoa(i), 2+i, op.Name(o), filled(byte(i)))
		for _, o := range []api.Op{p, w, o} {
			s.Take(o)
		}
		present = append(present, o, p)
		heads = append(heads, p)
		waiting = append(waiting, w)
	}
	holds(t, s, present, waiting)
	if got, want := s.Heads(), sorted(named(heads...)...); !slices.Equal(got, want) {
		t.Errorf("heads: %v, not %v", short(got), short(want))
	}
}

// P10.1: heads are those that are among the Preds of none that is present: one, several; those that wait count for nothing.
func TestHeads(t *testing.T) {
	a, b, c := after("a"), after("b"), after("c")
	ab, bc := after("ab", a, b), after("bc", b, c)
	all := after("all", ab, bc)
	w := behind("w", 2, op.Name(a), filled(1))
	v := behind("v", 5, op.Name(all), op.Name(w))
	for _, one := range []struct{ list, heads []api.Op }{
		{nil, nil},
		{[]api.Op{w}, nil},
		{[]api.Op{a}, []api.Op{a}},
		{[]api.Op{a, w}, []api.Op{a}},
		{[]api.Op{w, a}, []api.Op{a}},
		{[]api.Op{a, b, c}, []api.Op{a, b, c}},
		{[]api.Op{a, b, ab}, []api.Op{ab}},
		{[]api.Op{a, b, c, ab}, []api.Op{ab, c}},
		{[]api.Op{a, b, ab, c}, []api.Op{ab, c}},
		{[]api.Op{ab, a, c, b}, []api.Op{ab, c}},
		{[]api.Op{a, b, c, ab, bc}, []api.Op{ab, bc}},
		{[]api.Op{a, b, c, ab, bc, all, w, v}, []api.Op{all}},
		{[]api.Op{all, bc, ab, c, b, a}, []api.Op{all}},
		{[]api.Op{a, b, c, after("o", a), after("p", a), after("q", b)}, []api.Op{after("o", a), after("p", a), after("q", b), c}},
		{[]api.Op{a, ab, b, after("o", a, ab)}, []api.Op{after("o", a, ab)}},
	} {
		s := filledBy(t, one.list...)
		if got, want := s.Heads(), sorted(named(one.heads...)...); !slices.Equal(got, want) {
			t.Errorf("%v: %v, not %v", short(named(one.list...)), short(got), short(want))
		}
	}
}

// P10.1: one with a wrong depth takes no head away.
func TestHeadsBesideWrongDepth(t *testing.T) {
	a := after("a")
	wrong := deep(after("b", a), 3)
	s := filledBy(t, a)
	taken(t, s, wrong, api.ErrFalse)
	if got := s.Heads(); !slices.Equal(got, named(a)) {
		t.Errorf("heads: %x", got)
	}
	s = filledBy(t, wrong, a)
	if got := s.Heads(); !slices.Equal(got, named(a)) {
		t.Errorf("heads: %x", got)
	}
}

// P10.1: the past of what is present is all Preds, over others, too, each once: of a line, a fork, a diamond; without the operation itself.
func TestPast(t *testing.T) {
	a, b := after("a"), after("b")
	c := after("c", a)
	d := after("d", c)
	left, right := after("left", d, b), after("right", d)
	diamond := after("diamond", left, right)
	jump := after("jump", a, diamond)
	lone := after("lone")
	s := filledBy(t, a, b, c, d, left, right, diamond, jump, lone)
	for _, one := range []struct {
		o    api.Op
		past []api.Op
	}{
		{a, nil},
		{lone, nil},
		{c, []api.Op{a}},
		{d, []api.Op{a, c}},
		{left, []api.Op{a, b, c, d}},
		{right, []api.Op{a, c, d}},
		{diamond, []api.Op{a, b, c, d, left, right}},
		{jump, []api.Op{a, b, c, d, left, right, diamond}},
	} {
		if got, want := s.Past(op.Name(one.o)), sorted(named(one.past...)...); !slices.Equal(got, want) {
			t.Errorf("%x: %v, not %v", one.o, short(got), short(want))
		}
	}
}

// P10.1: what waits, or is unknown, has no past, even if Preds of it are present.
func TestPastOfNone(t *testing.T) {
	a := after("a")
	b := after("b", a)
	w := behind("w", 3, op.Name(b), filled(1))
	v := behind("v", 4, op.Name(w), op.Name(a))
	wrong := deep(b, 3)
	s := filledBy(t, a, b, w, v)
	taken(t, s, wrong, api.ErrFalse)
	for _, name := range []api.Id{op.Name(w), op.Name(v), op.Name(wrong), filled(1), {}} {
		if got := s.Past(name); len(got) != 0 {
			t.Errorf("%x: %x", name, got)
		}
	}
}

// P10.1: the past of layers that are all joined to one another has each name once: the ways to it are many more than the names.
func TestPastOfLayers(t *testing.T) {
	var all []api.Op
	layer := []api.Op(nil)
	for depth := range 40 {
		var next []api.Op
		for i := range 3 {
			next = append(next, after(strconv.Itoa(depth)+"."+strconv.Itoa(i), layer...))
		}
		layer = next
		all = append(all, layer...)
	}
	s := filledBy(t, all...)
	if got, want := s.Past(op.Name(all[119])), sorted(named(all[:117]...)...); !slices.Equal(got, want) {
		t.Errorf("%d names, not %d", len(got), len(want))
	}
}

// P10.1: long lines and many that wait for one are no trouble.
func TestMany(t *testing.T) {
	const count = 20000
	line := []api.Op{after("first")}
	for i := range count {
		o := behind(strconv.Itoa(i), i+2, op.Name(line[i]))
		line = append(line, o)
	}
	s := dag.New()
	for i := count; i > 0; i-- {
		s.Take(line[i])
	}
	names := named(line...)
	if got, e := s.Take(line[0]); e != api.OK || !slices.Equal(got, names) {
		t.Errorf("%d, %d", len(got), e)
	}
	if got := s.Past(names[count]); !slices.Equal(got, sorted(names[:count]...)) {
		t.Errorf("past: %d", len(got))
	}
	s = dag.New()
	for i := range count {
		line[i+1] = behind(strconv.Itoa(i), 2, names[0])
		s.Take(line[i+1])
	}
	names = named(line...)
	if got, e := s.Take(line[0]); e != api.OK || got[0] != names[0] || !slices.Equal(got[1:], sorted(names[1:]...)) {
		t.Errorf("%d, %d", len(got), e)
	}
	if got := s.Heads(); len(got) != count {
		t.Errorf("heads: %d", len(got))
	}
}
