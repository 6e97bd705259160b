package list_test

import (
	"slices"
	"strconv"
	"testing"

	"tribunal/api"
	"tribunal/dag"
	"tribunal/list"
	"tribunal/op"
)

// orders calls f with each order of operations.
func orders(ops []api.Op, f func(ops []api.Op)) {
	var from func(i int)
	from = func(i int) {
		if i == len(ops) {
			f(ops)
			return
		}
		for j := i; j < len(ops); j++ {
			ops[i], ops[j] = ops[j], ops[i]
			from(i + 1)
			ops[i], ops[j] = ops[j], ops[i]
		}
	}
	from(0)
}

// drawn are all operations in a drawn order, some of them several times.
func drawn(chance *row, ops []api.Op) []api.Op {
	ops = slices.Clone(ops)
	for range len(ops) / 2 {
		ops = append(ops, ops[chance.next(len(ops))])
	}
	for i := range ops {
		j := i + chance.next(len(ops)-i)
		ops[i], ops[j] = ops[j], ops[i]
	}
	return ops
}

// P13.2: in each order in which a few operations arrive the four results are the same.
func TestAllOrders(t *testing.T) {
	x := insert("k", "x", start)
	y := behind(x, "y")
	z := behind(y, "z")
	for _, ops := range [][]api.Op{
		{x, y, z, without(y), insert("k", "0", start, z)},
		{x, by(1, x), by(2, x), y, by(1, y), without(x)},
		{x, y, insert("k", "z", op.Name(y)), insert("l", "z", op.Name(y), x), erase("k", op.Name(y)), erase("l", op.Name(x))},
		{x, insert("k", "1", op.Name(x)), insert("k", "2", op.Name(x), x), insert("k", "3", start), add("k", "x"), without(x)},
		{x, x, y, deep(z, 7), lost(y), by(5, x), insert("l", "", start)},
	} {
		m := modelOf(ops)
		orders(ops, func(ops []api.Op) {
			if !t.Failed() {
				like(t, filledBy(ops...), m)
			}
		})
	}
}

// P13.2: in drawn orders of many operations, some of which come more than once, the four results are the same.
func TestDrawnOrders(t *testing.T) {
	var chance row = 7
	for range 8 {
		ops := universe(&chance, 100)
		m := modelOf(ops)
		for range 8 {
			like(t, filledBy(drawn(&chance, ops)...), m)
		}
	}
}

// P13.2: elements never change their relative order, in whatever order operations are taken.
func TestRelativeOrder(t *testing.T) {
	var chance row = 5
	for range 10 {
		ops := drawn(&chance, universe(&chance, 120))
		s := dag.New()
		before := map[string][]list.Item{}
		for _, o := range ops {
			s.Take(o)
			for _, key := range []string{"a", "ab"} {
				items := list.Items(s, key)
				remains(t, before[key], items)
				before[key] = items
			}
		}
		if len(before["a"]) < 5 {
			t.Errorf("only %d elements", len(before["a"]))
		}
	}
}

// remains fails, unless all elements of one time are there later, in the same relative order, with their values, those erased that were.
func remains(t *testing.T, before, later []list.Item) {
	t.Helper()
	i := 0
	for _, x := range later {
		if i < len(before) && x.Id == before[i].Id {
			if x.Value != before[i].Value || before[i].Gone && !x.Gone {
				t.Errorf("%v was %v", x, before[i])
			}
			i++
		}
	}
	if i < len(before) {
		t.Errorf("%v isn't where it was, in %v", before[i], later)
	}
}

// author is one who has operations of his own and of others.
type author struct {
	me int
	s  *dag.Set
}

// does performs something here, after everything that is present, and returns the name.
func (a author) does(t *testing.T, kind int, key, value string, ref api.Id) api.Id {
	t.Helper()
	o, e := a.s.Next(a.me, api.Draft{Kind: kind, Key: key, Value: value, Ref: ref})
	if e != api.OK {
		t.Fatalf("Next: %d", e)
	}
	if names, e := a.s.Take(o); e != api.OK || len(names) < 1 {
		t.Fatalf("Take: %d", e)
	}
	return op.Name(o)
}

// hears takes all that another one has.
func (a author) hears(from author) {
	for _, name := range from.s.Names() {
		o, _ := from.s.Get(name)
		a.s.Take(o)
	}
}

// authors are so many, without operations.
func authors(count int) []author {
	all := make([]author, count)
	for i := range all {
		all[i] = author{i, dag.New()}
	}
	return all
}

// types is a text, each letter of which is inserted after the one ahead of it.
func (a author) types(t *testing.T, text string, ref api.Id) api.Id {
	for i := range len(text) {
		ref = a.does(t, api.Insert, "k", text[i:i+1], ref)
	}
	return ref
}

// text is what is read, as one.
func (a author) text() string {
	text := ""
	for _, value := range list.Read(a.s, "k") {
		text += value
	}
	return text
}

// P13.2: what two authors write at one place without knowing of each other stands one behind the other, not mixed, the same with both.
func TestWordsStayWhole(t *testing.T) {
	for i := range 20 {
		a := authors(2)
		last := a[0].types(t, "<"+strconv.Itoa(i), start)
		a[0].types(t, ">", last)
		a[1].hears(a[0])
		one, two := strconv.Itoa(i)+"abc", strconv.Itoa(i)+"xyzuvw"
		a[0].types(t, one, last)
		a[1].types(t, two, last)
		a[0].hears(a[1])
		a[1].hears(a[0])
		got := a[0].text()
		if got != a[1].text() {
			t.Errorf("%q and %q", got, a[1].text())
		}
		if got != "<"+strconv.Itoa(i)+one+two+">" && got != "<"+strconv.Itoa(i)+two+one+">" {
			t.Errorf("%q", got)
		}
	}
}

// P13.2: what is inserted after everything that is present is immediately after its Ref, at the beginning and after any element, erased or not; and what others do at other places doesn't change that.
func TestImmediatelyAfter(t *testing.T) {
	var chance row = 11
	inserts, erases := 0, 0
	for range 6 {
		a := authors(4)
		for i := range 80 {
			me := a[chance.next(len(a))]
			before := list.Items(me.s, "k")
			ref := start
			if n := chance.next(len(before) + 1); n > 0 {
				ref = before[n-1].Id
			}
			switch what := chance.next(6); {
			case what < 3:
				name := me.does(t, api.Insert, "k", strconv.Itoa(i), ref)
				want := slices.Insert(before, place(before, ref)+1, list.Item{Id: name, Value: strconv.Itoa(i)})
				items(t, me.s, "k", want...)
				lists(t, me.s, modelOf(taken(me.s)).lists()...)
				inserts++
			case what == 3 && ref != start:
				me.does(t, api.Erase, "k", "", ref)
				before[place(before, ref)].Gone = true
				items(t, me.s, "k", before...)
				erases++
			case what == 4:
				me.does(t, api.Insert, "l", "other", start)
				items(t, me.s, "k", before...)
			default:
				me.hears(a[chance.next(len(a))])
				remains(t, before, list.Items(me.s, "k"))
			}
		}
		for _, other := range a {
			a[0].hears(other)
		}
		for _, other := range a {
			other.hears(a[0])
			like(t, other.s, modelOf(taken(a[0].s)))
		}
	}
	if inserts < 150 || erases < 30 {
		t.Errorf("only %d Inserts and %d Erases", inserts, erases)
	}
}

// taken are the operations of a set.
func taken(s *dag.Set) []api.Op {
	var ops []api.Op
	for _, name := range s.Names() {
		o, _ := s.Get(name)
		ops = append(ops, o)
	}
	return ops
}
