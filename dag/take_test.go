package dag_test

import (
	"slices"
	"strconv"
	"strings"
	"testing"

	"tribunal/api"
	"tribunal/dag"
	"tribunal/op"
)

// P10.1: a new set is empty in every method.
func TestNew(t *testing.T) {
	s := dag.New()
	if s == nil {
		t.Fatal("nil")
	}
	for _, name := range []api.Id{{}, filled(0xff), op.Name(after("a"))} {
		if o, e := s.Get(name); e != api.ErrNone || !same(o, api.Op{}) {
			t.Errorf("Get: %x, %d", o, e)
		}
		if list := s.Past(name); len(list) != 0 {
			t.Errorf("past: %x", list)
		}
	}
	if len(s.Names()) != 0 || len(s.Heads()) != 0 || len(s.Waits()) != 0 {
		t.Errorf("%x, %x, %x", s.Names(), s.Heads(), s.Waits())
	}
	if o, e := s.Next(3, draft("a")); e != api.OK || !same(o, api.Op{Draft: draft("a"), Author: 3, Depth: 1}) {
		t.Errorf("Next: %x, %d", o, e)
	}
}

// P10.1, rule 4: sets are independent of one another.
func TestSetsAreIndependent(t *testing.T) {
	a, b := dag.New(), dag.New()
	first := after("a")
	second := after("b", first)
	taken(t, a, first, api.OK, named(first)...)
	taken(t, b, second, api.OK)
	holds(t, a, []api.Op{first}, nil)
	holds(t, b, nil, []api.Op{second})
	taken(t, a, second, api.OK, named(second)...)
	holds(t, b, nil, []api.Op{second})
	taken(t, b, first, api.OK, named(first, second)...)
}

// invalid are operations that are not valid, by one thing each; their Preds are of operations that may be present.
func invalid(present ...api.Op) []api.Op {
	good := after("x", present...)
	names := good.Preds
	many := make([]api.Id, 33)
	for i := range many {
		many[i] = filled(byte(i))
	}
	change := func(f func(o *api.Op)) api.Op {
		o := good
		o.Preds = slices.Clone(names)
		f(&o)
		return o
	}
	return []api.Op{
		{},
		change(func(o *api.Op) { o.Kind = 0 }),
		change(func(o *api.Op) { o.Kind = 6 }),
		change(func(o *api.Op) { o.Key = "" }),
		change(func(o *api.Op) { o.Key = strings.Repeat("k", 17) }),
		change(func(o *api.Op) { o.Value = strings.Repeat("v", 65) }),
		change(func(o *api.Op) { o.Ref = filled(1) }),
		change(func(o *api.Op) { o.Kind, o.Value = api.Erase, "" }),
		change(func(o *api.Op) { o.Author = -1 }),
		change(func(o *api.Op) { o.Author = 5 }),
		change(func(o *api.Op) { o.Depth = 1 }),
		change(func(o *api.Op) { o.Depth = 0 }),
		change(func(o *api.Op) { o.Depth = -2 }),
		change(func(o *api.Op) { o.Preds = nil }),
		change(func(o *api.Op) { slices.Reverse(o.Preds) }),
		change(func(o *api.Op) { o.Preds = append(o.Preds, o.Preds[len(o.Preds)-1]) }),
		change(func(o *api.Op) { o.Preds = many }),
		change(func(o *api.Op) { o.Preds = []api.Id{filled(2), filled(1)} }),
		change(func(o *api.Op) { o.Preds = []api.Id{filled(2), filled(2)} }),
	}
}

// P10.1: what is not valid is ErrArg, and changes nothing: its depth is not asked for, nor whether its Preds are present.
func TestTakeInvalid(t *testing.T) {
	a, b := after("a"), after("b")
	c := after("c", behind("never", 7, filled(9)))
	for _, present := range [][]api.Op{{a, b}, {}} {
		s := filledBy(t, append(present, c)...)
		for _, o := range invalid(a, b) {
			taken(t, s, o, api.ErrArg)
			holds(t, s, present, []api.Op{c})
		}
	}
}

// P10.1: what is not valid is ErrArg even if an operation with its name is present, or waiting.
func TestTakeInvalidOfAName(t *testing.T) {
	a, b := after("a"), behind("b", 2, filled(1))
	s := filledBy(t, a, b)
	for _, o := range []api.Op{a, b} {
		twin := o
		twin.Author = -1
		if op.Name(twin) != op.Name(o) {
			t.Fatalf("%x has another name", twin)
		}
		taken(t, s, twin, api.ErrArg)
		taken(t, s, o, api.ErrTwice)
	}
	holds(t, s, []api.Op{a}, []api.Op{b})
}

// P10.1: what is valid is taken: of every kind and author, of Keys and Values of all sizes.
func TestTakeValid(t *testing.T) {
	list := []api.Draft{
		{Kind: api.Add, Key: "k"},
		{Kind: api.Drop, Key: strings.Repeat("k", 16), Value: strings.Repeat("v", 64)},
		{Kind: api.Set, Key: "\x00", Value: "\xff\x00"},
		{Kind: api.Insert, Key: "k", Value: "v"},
		{Kind: api.Insert, Key: "k", Value: "v", Ref: filled(0x77)},
		{Kind: api.Erase, Key: "k", Ref: filled(0x77)},
	}
	s := dag.New()
	var all []api.Op
	for _, d := range list {
		for author := range 5 {
			o := api.Op{Draft: d, Author: author, Depth: 1, Preds: []api.Id{}}
			taken(t, s, o, api.OK, op.Name(o))
			all = append(all, o)
			holds(t, s, all, nil)
		}
	}
	if got := s.Heads(); !slices.Equal(got, s.Names()) {
		t.Errorf("heads: %x", got)
	}
}

// P10.1: what is present, or waiting, is ErrTwice, and nothing changes.
func TestTakeTwice(t *testing.T) {
	a := after("a")
	b := after("b", a)
	c := after("c", behind("never", 7, filled(9)))
	s := filledBy(t, a, b, c)
	for range 3 {
		for _, o := range []api.Op{c, b, a} {
			taken(t, s, o, api.ErrTwice)
			holds(t, s, []api.Op{a, b}, []api.Op{c})
		}
	}
}

// P10.1: what waited is ErrTwice while it waits, and when it is present.
func TestTakeTwiceAfterWaiting(t *testing.T) {
	a := after("a")
	b := after("b", a)
	s := dag.New()
	taken(t, s, b, api.OK)
	taken(t, s, b, api.ErrTwice)
	taken(t, s, a, api.OK, named(a, b)...)
	taken(t, s, b, api.ErrTwice)
	taken(t, s, a, api.ErrTwice)
	holds(t, s, []api.Op{a, b}, nil)
}

// P10.1: an operation one of whose Preds is not present waits, whichever it is, and whether it is unknown, or waits itself.
func TestTakeWaits(t *testing.T) {
	a, b := after("a"), after("b")
	c := behind("c", 2, filled(0x80))
	for _, absent := range []api.Id{{}, filled(0x7f), filled(0xff), op.Name(c)} {
		s := filledBy(t, a, b, c)
		o := behind("o", 3, op.Name(a), op.Name(b), absent)
		taken(t, s, o, api.OK)
		holds(t, s, []api.Op{a, b}, []api.Op{c, o})
		if got := s.Heads(); !slices.Equal(got, sorted(named(a, b)...)) {
			t.Errorf("heads: %x", got)
		}
	}
}

// P10.1: an operation that waits for several Preds waits until the last one is present, whichever it is.
func TestTakeWaitsForAll(t *testing.T) {
	preds := []api.Op{after("a"), after("b"), after("c"), after("d")}
	o := after("o", preds...)
	for skip := range preds {
		s := filledBy(t, o)
		for i, pred := range preds {
			if i != skip {
				taken(t, s, pred, api.OK, op.Name(pred))
				if !slices.Equal(s.Waits(), named(o)) {
					t.Errorf("waiting: %x", s.Waits())
				}
			}
		}
		taken(t, s, preds[skip], api.OK, named(preds[skip], o)...)
		holds(t, s, append(preds[:4:4], o), nil)
	}
}

// P10.1: an operation with 32 Preds waits for all of them, too.
func TestTakeWaitsForMost(t *testing.T) {
	var preds []api.Op
	for i := range 32 {
		preds = append(preds, after(strconv.Itoa(i)))
	}
	o := after("o", preds...)
	s := filledBy(t, o)
	for _, pred := range preds[1:] {
		taken(t, s, pred, api.OK, op.Name(pred))
	}
	holds(t, s, preds[1:], []api.Op{o})
	taken(t, s, preds[0], api.OK, named(preds[0], o)...)
	if got := s.Heads(); !slices.Equal(got, named(o)) {
		t.Errorf("heads: %x", got)
	}
}

// P10.1: an operation whose depth is not correct is ErrFalse, neither present nor waiting, as often as it comes; with the correct depth it is taken.
func TestTakeWrongDepth(t *testing.T) {
	a := after("a")
	b := after("b", a)
	c := after("c", b)
	for _, preds := range [][]api.Op{{a}, {b}, {c}, {a, c}, {a, b}, {a, b, c}} {
		s := filledBy(t, a, b, c)
		right := after("o", preds...)
		for _, depth := range []int{2, 3, 4, 5, 6, 256, top} {
			wrong := deep(right, depth)
			if depth != right.Depth {
				for range 2 {
					taken(t, s, wrong, api.ErrFalse)
					holds(t, s, []api.Op{a, b, c}, nil)
				}
				if o, e := s.Get(op.Name(wrong)); e != api.ErrNone || !same(o, api.Op{}) {
					t.Errorf("Get: %x, %d", o, e)
				}
			}
		}
		taken(t, s, right, api.OK, op.Name(right))
		holds(t, s, []api.Op{a, b, c, right}, nil)
	}
}

// P10.1: the depth is one more than the greatest one of the Preds, whichever of them is named first.
func TestDepthOfGreatest(t *testing.T) {
	for _, is := range []bool{true, false} {
		a := after("a")
		b := after("b", a)
		lone := below(is, b, func(value string) api.Op { return after(value) })
		s := filledBy(t, a, b, lone)
		o := after("o", lone, b)
		taken(t, s, deep(o, 2), api.ErrFalse)
		taken(t, s, o, api.OK, op.Name(o))
		if o.Depth != 3 || !slices.Equal(o.Preds, sorted(named(lone, b)...)) {
			t.Errorf("%x", o)
		}
	}
}

// P10.1: those that wait for one whose depth is not correct wait on when it has come.
func TestWaitBehindWrongDepth(t *testing.T) {
	a := after("a")
	wrong := deep(after("b", a), 3)
	c := after("c", wrong)
	s := filledBy(t, c, a)
	for range 2 {
		taken(t, s, wrong, api.ErrFalse)
		holds(t, s, []api.Op{a}, []api.Op{c})
	}
	right := after("b", a)
	taken(t, s, right, api.OK, op.Name(right))
	holds(t, s, []api.Op{a, right}, []api.Op{c})
}

// P10.1: an operation for which others wait that lack other Preds lets none of them be present.
func TestTakeReleasesNone(t *testing.T) {
	a, b := after("a"), after("b")
	o := after("o", a, b)
	p := after("p", o)
	s := filledBy(t, p, o)
	taken(t, s, a, api.OK, op.Name(a))
	holds(t, s, []api.Op{a}, []api.Op{o, p})
}

// P10.1: an operation lets those be present that wait for it, over others, too.
func TestTakeReleasesALine(t *testing.T) {
	a := after("a")
	line := []api.Op{a}
	for i := range 20 {
		line = append(line, after(strconv.Itoa(i), line[i]))
	}
	s := dag.New()
	for i := 20; i > 0; i-- {
		taken(t, s, line[i], api.OK)
		holds(t, s, nil, line[i:])
	}
	taken(t, s, a, api.OK, named(line...)...)
	holds(t, s, line, nil)
}

// P10.1: of several that wait for one, the one with the least name is present first, in whichever order they came.
func TestTakeReleasesLeastFirst(t *testing.T) {
	a := after("a")
	var list []api.Op
	for i := range 12 {
		list = append(list, after(strconv.Itoa(i), a))
	}
	var chance row = 3
	for range 20 {
		s := dag.New()
		order := slices.Clone(list)
		for i := range order {
			j := i + chance.next(len(order)-i)
			order[i], order[j] = order[j], order[i]
			taken(t, s, order[i], api.OK)
		}
		taken(t, s, a, api.OK, append(named(a), sorted(named(list...)...)...)...)
		holds(t, s, append(list[:12:12], a), nil)
	}
}

// P10.1: the least name is found anew each time: one that becomes ready by another one comes before those that were ready already, if its name is less.
func TestTakeReleasesAnew(t *testing.T) {
	a := after("a")
	b := after("b", a)
	c := below(false, b, func(value string) api.Op { return after(value, a) })
	less := below(true, b, func(value string) api.Op { return after("less"+value, b) })
	between := below(true, c, func(value string) api.Op {
		return below(false, b, func(more string) api.Op { return after("between"+value+more, b) })
	})
	above := below(false, c, func(value string) api.Op { return after("above"+value, b) })
	for _, list := range [][]api.Op{{b, less, c}, {b, between, c}, {b, c, above}, {b, less, between, c, above}} {
		for range 2 {
			s := filledBy(t, list...)
			taken(t, s, a, api.OK, named(append([]api.Op{a}, list...)...)...)
			slices.Reverse(list)
			s = filledBy(t, list...)
			slices.Reverse(list)
			taken(t, s, a, api.OK, named(append([]api.Op{a}, list...)...)...)
		}
	}
}

// P10.1: one that waited, and whose depth is not correct, is not waiting any more, nor present; the others become present as ever.
func TestWaitedWithWrongDepth(t *testing.T) {
	a := after("a")
	b := after("b", a)
	for _, is := range []bool{true, false} {
		for _, depth := range []int{3, 4, top} {
			wrong := below(is, b, func(value string) api.Op { return deep(after(value, a), depth) })
			c := deep(after("c", deep(wrong, 3)), 4)
			c.Preds = named(wrong)
			s := filledBy(t, c, wrong, b)
			taken(t, s, a, api.OK, named(a, b)...)
			holds(t, s, []api.Op{a, b}, []api.Op{c})
			if o, e := s.Get(op.Name(wrong)); e != api.ErrNone || !same(o, api.Op{}) {
				t.Errorf("Get: %x, %d", o, e)
			}
			taken(t, s, wrong, api.ErrFalse)
			taken(t, s, c, api.ErrTwice)
			holds(t, s, []api.Op{a, b}, []api.Op{c})
		}
	}
}

// P10.1: one that waited with too small a depth is not present either.
func TestWaitedWithSmallDepth(t *testing.T) {
	a := after("a")
	b := after("b", a)
	small := deep(after("c", b), 2)
	s := filledBy(t, small, b)
	taken(t, s, a, api.OK, named(a, b)...)
	holds(t, s, []api.Op{a, b}, nil)
	taken(t, s, small, api.ErrFalse)
}

// P10.1: a set of a nil pointer has ErrNil, or nothing, in every method.
func TestNilSet(t *testing.T) {
	var s *dag.Set
	for _, o := range append(invalid(after("a"), after("b")), after("a"), behind("b", 2, filled(1))) {
		taken(t, s, o, api.ErrNil)
		name := op.Name(o)
		if got, e := s.Get(name); e != api.ErrNil || !same(got, api.Op{}) {
			t.Errorf("Get: %x, %d", got, e)
		}
		if list := s.Past(name); len(list) != 0 {
			t.Errorf("past: %x", list)
		}
		if got, e := s.Next(o.Author, o.Draft); e != api.ErrNil || !same(got, api.Op{}) {
			t.Errorf("Next: %x, %d", got, e)
		}
	}
	if len(s.Names()) != 0 || len(s.Heads()) != 0 || len(s.Waits()) != 0 {
		t.Errorf("%x, %x, %x", s.Names(), s.Heads(), s.Waits())
	}
}
