package dag_test

import (
	"slices"
	"strconv"
	"testing"

	"tribunal/api"
	"tribunal/dag"
	"tribunal/op"
)

// swap swaps two places of a list.
func swap(list []api.Op, i, j int) {
	list[i], list[j] = list[j], list[i]
}

// orders calls f with each order of a list.
func orders(list []api.Op, f func(list []api.Op)) {
	var from func(i int)
	from = func(i int) {
		if i == len(list) {
			f(list)
			return
		}
		for j := i; j < len(list); j++ {
			swap(list, i, j)
			from(i + 1)
			swap(list, i, j)
		}
	}
	from(0)
}

// result are those of a list that are present in the end, whatever the order, and those that wait, as P10.2 tells it: the greatest number of them such that with each its Preds are present, and its depth is correct.
func result(list []api.Op) (present, waiting []api.Op) {
	m := &model{}
	for range list {
		for _, o := range list {
			if op.Good(o) && at(m.present, op.Name(o)) < 0 && !m.lacks(o) && o.Depth == m.correct(o.Preds) {
				m.present = append(m.present, o)
			}
		}
	}
	for _, o := range list {
		if op.Good(o) && m.lacks(o) && at(waiting, op.Name(o)) < 0 {
			waiting = append(waiting, o)
		}
	}
	return m.present, waiting
}

// closed fails, unless with each operation its past is present, and each depth is correct.
func closed(t *testing.T, s *dag.Set) {
	t.Helper()
	names := s.Names()
	for _, name := range names {
		o, e := s.Get(name)
		depth := 1
		for _, pred := range o.Preds {
			before, predE := s.Get(pred)
			if predE != api.OK {
				t.Errorf("a Pred of %x is not present", o)
			}
			depth = max(depth, before.Depth+1)
		}
		if e != api.OK || !op.Good(o) || op.Name(o) != name || o.Depth != depth {
			t.Errorf("%x: %x, %d; %d", name, o, e, depth)
		}
		for _, before := range s.Past(name) {
			if _, is := slices.BinarySearchFunc(names, before, op.Compare); !is {
				t.Errorf("%x, of the past of %x, is not present", before, name)
			}
		}
	}
}

// inOrders takes a list in each order, and fails, unless the same is present and waiting in the end of each.
func inOrders(t *testing.T, list []api.Op) {
	t.Helper()
	present, waiting := result(list)
	heads := (&model{present: present}).heads()
	orders(list, func(list []api.Op) {
		s := dag.New()
		for _, o := range list {
			s.Take(o)
		}
		holds(t, s, present, waiting)
		if !slices.Equal(s.Heads(), heads) {
			t.Errorf("heads: %v, not %v", short(s.Heads()), short(heads))
		}
		closed(t, s)
	})
}

// P10.2: in every order of a few operations the same are present in the end: lines, forks, diamonds, one with a wrong depth, and those behind it.
func TestAllOrders(t *testing.T) {
	a, b := after("a"), after("b")
	c, d := after("c", a), after("d", a, b)
	e := after("e", c, d)
	wrong := deep(after("wrong", c), 4)
	small := deep(after("small", e), 3)
	rest := after("rest", wrong, a)
	lost := behind("lost", 3, filled(1), op.Name(a))
	for _, list := range [][]api.Op{
		{a, b, c, d, e, after("f", e)},
		{a, c, after("d", c), after("e", after("d", c)), b},
		{a, b, c, d, e, small},
		{a, c, wrong, rest, b, d},
		{a, c, wrong, rest, lost, after("g", lost)},
		{a, a, c, c, wrong, wrong},
		{b, d, d, a, e, {}},
	} {
		inOrders(t, list)
	}
}

// universe are so many operations that build on each other; some have a wrong depth, or Preds that nobody has, or aren't valid.
func universe(chance *row, size int) []api.Op {
	var list []api.Op
	for i := range size {
		var preds []api.Op
		for range chance.next(4) {
			if i > 0 {
				o := list[i-1-chance.next(min(i, 12))]
				if op.Good(o) && at(preds, op.Name(o)) < 0 {
					preds = append(preds, o)
				}
			}
		}
		o := after(strconv.Itoa(i), preds...)
		o.Author = chance.next(5)
		switch chance.next(20) {
		case 0:
			o.Depth += 1 + chance.next(2)
		case 1:
			o.Depth = max(2, o.Depth-1)
		case 2:
			o = behind(strconv.Itoa(i), 2+chance.next(9), append(o.Preds, filled(byte(i)))...)
		case 3:
			o.Author = 5
		}
		list = append(list, o)
	}
	return list
}

// drawn are all of a list in a drawn order, some of them several times.
func drawn(chance *row, list []api.Op) []api.Op {
	list = slices.Clone(list)
	for range len(list) / 2 {
		list = append(list, list[chance.next(len(list))])
	}
	for i := range list {
		swap(list, i, i+chance.next(len(list)-i))
	}
	return list
}

// P10.2: in drawn orders of many operations, some of which come more than once, the same are present in the end.
func TestDrawnOrders(t *testing.T) {
	var chance row = 5
	for range 12 {
		list := universe(&chance, 60)
		present, waiting := result(list)
		heads := (&model{present: present}).heads()
		for range 6 {
			s := dag.New()
			for _, o := range drawn(&chance, list) {
				s.Take(o)
			}
			holds(t, s, present, waiting)
			if !slices.Equal(s.Heads(), heads) {
				t.Errorf("heads: %v, not %v", short(s.Heads()), short(heads))
			}
			closed(t, s)
		}
	}
}

// P10.1, P10.2: after each call of a drawn sequence a set returns what the reference does, and is closed.
func TestLikeReference(t *testing.T) {
	var chance row = 8
	counts := map[api.Errno]int{}
	released := 0
	for i := range 30 {
		list := universe(&chance, 24)
		order := drawn(&chance, list)
		if i%3 == 0 {
			order = append(list, list...)
		}
		s, m := dag.New(), &model{}
		for _, o := range order {
			names, e := m.take(o)
			taken(t, s, o, e, names...)
			like(t, s, m, named(list...))
			closed(t, s)
			counts[e]++
			if len(names) > 2 {
				released++
			}
		}
	}
	for _, e := range []api.Errno{api.OK, api.ErrArg, api.ErrTwice, api.ErrFalse} {
		if counts[e] < 10 {
			t.Errorf("error %d: only %d times", e, counts[e])
		}
	}
	if released < 10 {
		t.Errorf("several were released only %d times", released)
	}
}
