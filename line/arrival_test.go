package line_test

import (
	"slices"
	"strconv"
	"testing"

	"tribunal/api"
	"tribunal/dag"
	"tribunal/line"
)

// orders calls f with each order of a list.
func orders(list []api.Op, f func(list []api.Op)) {
	var from func(i int)
	from = func(i int) {
		if i == len(list) {
			f(list)
			return
		}
		for j := i; j < len(list); j++ {
			list[i], list[j] = list[j], list[i]
			from(i + 1)
			list[i], list[j] = list[j], list[i]
		}
	}
	from(0)
}

// drawn are all of a list in a drawn order, some of them several times.
func drawn(chance *row, list []api.Op) []api.Op {
	list = slices.Clone(list)
	for range len(list) / 2 {
		list = append(list, list[chance.next(len(list))])
	}
	for i := range list {
		j := i + chance.next(len(list)-i)
		list[i], list[j] = list[j], list[i]
	}
	return list
}

// pastFirst fails, unless each operation of a set comes after all of its past, in Order, in Row, and in what Of returns.
func pastFirst(t *testing.T, s *dag.Set) {
	t.Helper()
	places := map[api.Id]int{}
	for i, name := range line.Order(s) {
		places[name] = i + 1
	}
	lists := [][]api.Op{line.Row(s)}
	for _, key := range line.Keys(s, 1, 2, 3, 4, 5) {
		lists = append(lists, line.Of(s, key, 1, 2, 3, 4, 5), line.Of(s, key, 5, 1))
	}
	if len(places) != len(s.Names()) || len(places) != len(lists[0]) {
		t.Errorf("%d names, %d operations, of %d", len(places), len(lists[0]), len(s.Names()))
	}
	for _, list := range lists {
		last := 0
		for _, name := range named(list...) {
			for _, before := range s.Past(name) {
				if places[before] == 0 || places[before] >= places[name] {
					t.Errorf("%v comes at %d, of the past of %v, at %d", short([]api.Id{before}), places[before], short([]api.Id{name}), places[name])
				}
			}
			if places[name] <= last {
				t.Errorf("%d comes after %d", places[name], last)
			}
			last = places[name]
		}
	}
}

// small are lists of a few operations: lines, forks, diamonds, one with a wrong depth, those behind it, those that wait for good, one that isn't valid.
func small() [][]api.Op {
	a := made(draft(api.Add, "x", "a"))
	b := made(draft(api.Set, "y", "b"))
	c := made(draft(api.Drop, "x", "a"), a)
	d := made(draft(api.Insert, "x", "d"), a, b)
	e := made(draft(api.Erase, "z", "e"), c, d)
	wrong := deep(after("wrong", c), 4)
	return [][]api.Op{
		{a, b, c, d, e, made(draft(api.Add, "x", "f"), e)},
		{a, c, after("d", c), after("e", after("d", c)), b},
		{a, b, made(draft(api.Set, "y", "1")), made(draft(api.Set, "y", "2")), made(draft(api.Add, "w", "3"))},
		{a, c, wrong, after("rest", wrong, a), b, d},
		{a, d, behind("lost", 3, filled(1)), b, e, c},
		{a, a, c, c, d, b},
		{b, d, a, {}, deep(b, 2), e},
	}
}

// P11.2: in each order in which a few operations arrive, each comes after its past, and Order, Row, Of and Keys are the same.
func TestAllOrders(t *testing.T) {
	for _, list := range small() {
		present := held(list)
		want := inOrder(present)
		all := []int{1, 2, 3, 4, 5}
		known := keys(want, all)
		like(t, filledBy(list...), present)
		orders(list, func(list []api.Op) {
			s := filledBy(list...)
			ordered(t, s, want...)
			for _, kinds := range [][]int{nil, {1}, {2, 3}, {5, 4, 1}, all} {
				for _, key := range known {
					rows(t, "Of", line.Of(s, key, kinds...), of(want, key, kinds))
				}
				if got, want := line.Keys(s, kinds...), keys(want, kinds); !slices.Equal(got, want) {
					t.Errorf("Keys of %v: %q, not %q", kinds, got, want)
				}
			}
			pastFirst(t, s)
		})
	}
}

// P11.2: in drawn orders of many operations, some of which come more than once, the results are the same, and each comes after its past.
func TestDrawnOrders(t *testing.T) {
	var chance row = 7
	for range 4 {
		list := universe(&chance, 80)
		present := held(list)
		for range 4 {
			s := filledBy(drawn(&chance, list)...)
			like(t, s, present)
			pastFirst(t, s)
		}
	}
}

// P11.2: what an operation builds on comes first even if all names go the other way, and if it is reached by ways of different lengths.
func TestPastFirst(t *testing.T) {
	list := []api.Op{after("0")}
	for i := 1; i < 8; i++ {
		last := list[i-1]
		list = append(list, first(last, func(value string) api.Op {
			if i > 2 {
				return after(value, list[i-3], last)
			}
			return after(value, last)
		}))
	}
	backwards := slices.Clone(list)
	slices.Reverse(backwards)
	for _, s := range []*dag.Set{filledBy(list...), filledBy(backwards...)} {
		ordered(t, s, list...)
		pastFirst(t, s)
	}
}

// P11.2: what two sets that heard of each other's operations arrange is the same, though each took its own ones first.
func TestTwoSets(t *testing.T) {
	sets := []*dag.Set{dag.New(), dag.New()}
	var chance row = 9
	for i := range 30 {
		var fresh []api.Op
		for me, s := range sets {
			for j := range chance.next(3) {
				o, e := s.Next(me, draft(1+chance.next(5), "k"+strconv.Itoa(chance.next(3)), strconv.Itoa(i)+"."+strconv.Itoa(j)))
				if e != api.OK {
					t.Fatalf("Next: %d", e)
				}
				s.Take(o)
				fresh = append(fresh, o)
			}
		}
		for _, s := range sets {
			for _, o := range drawn(&chance, fresh) {
				s.Take(o)
			}
		}
		row := line.Row(sets[0])
		ordered(t, sets[1], row...)
		if !slices.Equal(line.Order(sets[0]), line.Order(sets[1])) || !slices.Equal(line.Keys(sets[0], 1, 3), line.Keys(sets[1], 1, 3)) {
			t.Errorf("round %d: %v", i, short(line.Order(sets[0])))
		}
		rows(t, "Of", line.Of(sets[1], "k1", 1, 2, 4), line.Of(sets[0], "k1", 1, 2, 4))
		pastFirst(t, sets[1])
	}
}
