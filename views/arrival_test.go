package views_test

import (
	"slices"
	"testing"

	"tribunal/api"
	"tribunal/dag"
	"tribunal/op"
)

// orders calls f with each order of a list.
func orders(list []api.Op, f func(list []api.Op)) {
	var from func(i int)
	from = func(i int) {
		if i == len(list) {
			f(list)
			return
		}
		for j := i; j < len(list); j++ {
			list[i], list[j] = list[j], list[i]
			from(i + 1)
			list[i], list[j] = list[j], list[i]
		}
	}
	from(0)
}

// drawn are all of a list in a drawn order, some of them several times.
func drawn(chance *row, list []api.Op) []api.Op {
	list = slices.Clone(list)
	for range len(list) / 2 {
		list = append(list, list[chance.next(len(list))])
	}
	for i := range list {
		j := i + chance.next(len(list)-i)
		list[i], list[j] = list[j], list[i]
	}
	return list
}

// P12.2: in each order in which a few operations arrive the four results are the same.
func TestAllOrders(t *testing.T) {
	x := add("k", "x")
	gone := drop("k", "x", x)
	again := add("k", "x", gone)
	first, second := set("k", "1"), by(1, set("k", "2", x))
	for _, list := range [][]api.Op{
		{x, gone, again, by(1, x), drop("k", "x", again, by(1, x))},
		{x, by(1, x), gone, by(1, gone), first, second},
		{first, by(1, first), by(2, set("k", "3")), set("l", "", first), second, x},
		{x, gone, deep(again, 4), add("l", "x", deep(again, 4)), lost(add("l", "y")), by(5, x)},
		{x, x, add("l", "x"), drop("l", "x", x, add("l", "x")), made(api.Insert, "k", "x", x), gone},
	} {
		m := modelOf(list)
		orders(list, func(list []api.Op) { like(t, filledBy(list...), m) })
	}
}

// P12.2: in drawn orders of many operations, some of which come more than once, the four results are the same.
func TestDrawnOrders(t *testing.T) {
	var chance row = 7
	for range 8 {
		list := universe(&chance, 100)
		m := modelOf(list)
		for range 8 {
			like(t, filledBy(drawn(&chance, list)...), m)
		}
	}
}

// author is one who has operations of his own and of others.
type author struct {
	me int
	s  *dag.Set
}

// does performs something here, and returns the operation.
func (a author) does(t *testing.T, kind int, key, value string) api.Op {
	t.Helper()
	o, e := a.s.Next(a.me, api.Draft{Kind: kind, Key: key, Value: value})
	if e != api.OK {
		t.Fatalf("Next: %d", e)
	}
	if names, e := a.s.Take(o); e != api.OK || len(names) != 1 {
		t.Fatalf("Take: %d", e)
	}
	return o
}

// hears takes all that another one has.
func (a author) hears(from author) {
	for _, name := range from.s.Names() {
		o, _ := from.s.Get(name)
		a.s.Take(o)
	}
}

// authors are so many, without operations.
func authors(count int) []author {
	list := make([]author, count)
	for i := range list {
		list[i] = author{i, dag.New()}
	}
	return list
}

// P12.2: what an author adds is contained, here and wherever it arrives, until somebody drops it.
func TestAddedIsContained(t *testing.T) {
	a := authors(3)
	a[0].does(t, api.Add, "k", "x")
	members(t, a[0].s, "k", "x")
	members(t, a[1].s, "k")
	a[1].does(t, api.Drop, "k", "x")
	a[1].does(t, api.Add, "k", "y")
	a[0].does(t, api.Add, "l", "x")
	a[0].does(t, api.Set, "k", "x")
	for range 2 {
		for i := range a {
			a[2].hears(a[i])
			a[i].hears(a[2])
		}
	}
	for i := range a {
		members(t, a[i].s, "k", "x", "y")
		members(t, a[i].s, "l", "x")
		sets(t, a[i].s, "k", "l")
		value(t, a[i].s, "k", "x", true)
	}
}

// P12.2: what an author drops who knew all of its Adds is not contained anywhere, until it is added again.
func TestDroppedIsNot(t *testing.T) {
	a := authors(2)
	a[0].does(t, api.Add, "k", "x")
	a[1].does(t, api.Add, "k", "x")
	a[0].hears(a[1])
	a[0].does(t, api.Drop, "k", "x")
	members(t, a[0].s, "k")
	members(t, a[1].s, "k", "x")
	a[1].hears(a[0])
	members(t, a[1].s, "k")
	sets(t, a[1].s)
	a[1].does(t, api.Add, "k", "x")
	members(t, a[1].s, "k", "x")
	a[0].hears(a[1])
	members(t, a[0].s, "k", "x")
	a[1].does(t, api.Drop, "k", "x")
	members(t, a[1].s, "k")
	a[0].does(t, api.Drop, "k", "x")
	a[0].does(t, api.Drop, "k", "x")
	members(t, a[0].s, "k")
	a[0].does(t, api.Add, "k", "x")
	a[0].hears(a[1])
	a[1].hears(a[0])
	members(t, a[0].s, "k", "x")
	members(t, a[1].s, "k", "x")
}

// P12.2: a Drop of one who didn't know one of the Adds leaves the value contained.
func TestUnknownAddRemains(t *testing.T) {
	a := authors(3)
	for i := range a {
		a[i].does(t, api.Add, "k", "x")
	}
	a[0].hears(a[1])
	a[0].does(t, api.Drop, "k", "x")
	members(t, a[0].s, "k")
	a[0].hears(a[2])
	members(t, a[0].s, "k", "x")
	a[2].does(t, api.Drop, "k", "x")
	a[0].hears(a[2])
	members(t, a[0].s, "k")
}

// dropper is a Drop, and what its author knew when he did it.
type dropper struct {
	o     api.Op
	known []api.Id
}

// contents are the values of a key's set, by what is present and who knew what: each Add counts that no Drop of the same key and value knew.
func contents(s *dag.Set, key string, drops []dropper) []string {
	var values []string
	for _, name := range s.Names() {
		o, _ := s.Get(name)
		if o.Kind != api.Add || o.Key != key {
			continue
		}
		kept := true
		for _, d := range drops {
			if _, e := s.Get(op.Name(d.o)); e == api.OK && d.o.Key == key && d.o.Value == o.Value && slices.Contains(d.known, name) {
				kept = false
			}
		}
		if kept {
			values = put(values, o.Value)
		}
	}
	return values
}

// P12.2: in drawn runs of several authors, who now and then hear of each other, each has what somebody added and nobody dropped who knew of it.
func TestAuthors(t *testing.T) {
	var chance row = 11
	gone := 0
	for range 6 {
		a := authors(4)
		var drops []dropper
		for range 60 {
			i := chance.next(len(a))
			key, text := []string{"k", "l"}[chance.next(2)], []string{"x", "y", ""}[chance.next(3)]
			known := a[i].s.Names()
			switch chance.next(6) {
			case 0, 1:
				a[i].does(t, api.Add, key, text)
				if !slices.Contains(contents(a[i].s, key, drops), text) {
					t.Fatal("what is added is not contained")
				}
			case 2, 3:
				drops = append(drops, dropper{a[i].does(t, api.Drop, key, text), known})
				if slices.Contains(contents(a[i].s, key, drops), text) {
					t.Fatal("what is dropped is contained")
				}
				gone++
			case 4:
				a[i].does(t, api.Set, key, text)
				value(t, a[i].s, key, text, true)
			case 5:
				a[i].hears(a[chance.next(len(a))])
			}
			for _, key := range []string{"k", "l"} {
				members(t, a[i].s, key, contents(a[i].s, key, drops)...)
			}
		}
		for i := range a {
			a[0].hears(a[i])
		}
		for i := range a {
			a[i].hears(a[0])
			for _, key := range []string{"k", "l"} {
				members(t, a[i].s, key, contents(a[0].s, key, drops)...)
			}
		}
	}
	if gone < 50 {
		t.Errorf("only %d Drops", gone)
	}
}
