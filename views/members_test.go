package views_test

import (
	"slices"
	"strconv"
	"strings"
	"testing"

	"tribunal/api"
	"tribunal/dag"
	"tribunal/op"
)

// P12.1: a value is contained once, however many Adds of it there are, whoever's they are, and however they lie.
func TestAdds(t *testing.T) {
	x := add("k", "x")
	members(t, filledBy(x), "k", "x")
	members(t, filledBy(x, by(1, x)), "k", "x")
	members(t, filledBy(x, add("k", "x", x)), "k", "x")
	members(t, filledBy(x, by(1, x), add("k", "y"), add("k", "x", x), by(3, add("k", "y", x))), "k", "x", "y")
	members(t, filledBy(add("k", "")), "k", "")
	members(t, filledBy(by(4, add("k", "x", x))), "k")
	for _, key := range []string{"", "K", "k\x00", "\x00k", "kk", "x", "none", strings.Repeat("k", 1000)} {
		members(t, filledBy(x), key)
	}
}

// P12.1: the values are in ascending order, bytewise, one that is the beginning of another one ahead of it, whatever the order of the operations.
func TestValuesAscending(t *testing.T) {
	long := strings.Repeat("z", 64)
	want := []string{"", "\x00", "\x00\x00", "\x00a", "\x01", "10", "9", "A", "B", "a", "a\x00", "aa", "ab", "a\xff", "b", "ba", "é", long[:63], long, "\xff", "\xff\x00", "\xff\xff"}
	slices.Sort(want)
	var line, beside []api.Op
	for i, value := range want {
		o := add("k", value, line[max(0, len(line)-1):]...)
		line = append(line, o)
		beside = append(beside, by(i%5, add("k", value)))
	}
	backwards := slices.Clone(want)
	slices.Reverse(backwards)
	var down []api.Op
	for _, value := range backwards {
		down = append(down, add("k", value, down[max(0, len(down)-1):]...))
	}
	for _, list := range [][]api.Op{line, beside, down, append(slices.Clone(down), line...)} {
		members(t, filledBy(list...), "k", want...)
	}
}

// P12.1: what is dropped is what is in the past of a Drop of the same key and value, and nothing else.
func TestDrops(t *testing.T) {
	x, y := add("k", "x"), add("k", "y")
	x1, x2 := by(1, x), add("k", "x", y)
	gone := drop("k", "x", x)
	for i, one := range []struct {
		list []api.Op
		want []string
	}{
		// In the past, at once and by way of others.
		{[]api.Op{x, gone}, nil},
		{[]api.Op{x, y, drop("k", "x", x, y)}, []string{"y"}},
		{[]api.Op{x, add("k", "z", x), drop("k", "x", add("k", "z", x))}, []string{"z"}},
		{[]api.Op{x, set("k", "x", x), made(api.Insert, "o", "p", set("k", "x", x)), drop("k", "x", made(api.Insert, "o", "p", set("k", "x", x)))}, nil},
		{[]api.Op{x, gone, by(1, drop("k", "x", gone))}, nil},
		{[]api.Op{x, gone, by(1, gone)}, nil},
		// Not in the past.
		{[]api.Op{x, drop("k", "x")}, []string{"x"}},
		{[]api.Op{x, y, drop("k", "x", y)}, []string{"x", "y"}},
		{[]api.Op{x2, y, drop("k", "x", y)}, []string{"x", "y"}},
		{[]api.Op{drop("k", "x")}, nil},
		{[]api.Op{y, drop("k", "x", y)}, []string{"y"}},
		{[]api.Op{drop("k", "x"), add("k", "x", drop("k", "x"))}, []string{"x"}},
		// Several Adds of one value: those that the Drop knew, and others.
		{[]api.Op{x, x1, gone}, []string{"x"}},
		{[]api.Op{x, x1, drop("k", "x", x, x1)}, nil},
		{[]api.Op{x, add("k", "x", x), drop("k", "x", x)}, []string{"x"}},
		{[]api.Op{x, add("k", "x", x), drop("k", "x", add("k", "x", x))}, nil},
		{[]api.Op{x, x1, gone, drop("k", "x", x1)}, nil},
		{[]api.Op{x, x1, by(2, x), gone, drop("k", "x", x1)}, []string{"x"}},
		{[]api.Op{x, x1, by(2, x), gone, drop("k", "x", x1, by(2, x))}, nil},
		// Another key, another value.
		{[]api.Op{x, drop("kk", "x", x)}, []string{"x"}},
		{[]api.Op{x, drop("K", "x", x)}, []string{"x"}},
		{[]api.Op{x, drop("x", "k", x)}, []string{"x"}},
		{[]api.Op{x, drop("k", "y", x)}, []string{"x"}},
		{[]api.Op{x, drop("k", "", x)}, []string{"x"}},
		{[]api.Op{x, drop("k", "xx", x)}, []string{"x"}},
		{[]api.Op{x, drop("k", "x\x00", x)}, []string{"x"}},
		{[]api.Op{add("k", "lm"), drop("kl", "m", add("k", "lm"))}, []string{"lm"}},
		{[]api.Op{add("k", ""), drop("k", "", add("k", ""))}, nil},
		{[]api.Op{x, y, drop("k", "x", y), drop("k", "y", x)}, []string{"x", "y"}},
		{[]api.Op{x, y, drop("k", "x", x, y), drop("k", "y", x, y)}, nil},
		{[]api.Op{x, y, drop("k", "x", x, y), drop("k", "y", drop("k", "x", x, y))}, nil},
		{[]api.Op{x, y, drop("k", "x", x, y), drop("l", "y", drop("k", "x", x, y))}, []string{"y"}},
		// An Add after a Drop.
		{[]api.Op{x, gone, add("k", "x", gone)}, []string{"x"}},
		{[]api.Op{x, gone, add("k", "x", gone), drop("k", "x", add("k", "x", gone))}, nil},
		{[]api.Op{x, gone, add("k", "x", gone), by(1, drop("k", "x", gone))}, []string{"x"}},
		{[]api.Op{x, gone, add("k", "y", gone)}, []string{"y"}},
	} {
		backwards := slices.Clone(one.list)
		slices.Reverse(backwards)
		for _, list := range [][]api.Op{one.list, backwards} {
			s := filledBy(list...)
			if len(s.Names()) != len(list) {
				t.Fatalf("%d: %d are present, of %d", i, len(s.Names()), len(list))
			}
			members(t, s, "k", one.want...)
			like(t, s, modelOf(list))
		}
	}
}

// beside finds an Add and a Drop of one value behind these, of which the Add has the lesser name, or the greater one.
func beside(below bool, adds, drops []api.Op) (a, d api.Op) {
	for i := 0; ; i++ {
		a, d = add("k", strconv.Itoa(i), adds...), drop("k", strconv.Itoa(i), drops...)
		if less(op.Name(a), op.Name(d)) == below {
			return a, d
		}
	}
}

// P12.1: what is concurrent with a Drop remains, wherever the two are in layer 11's order: deeper or less deep, with a lesser or a greater name.
func TestConcurrentDrop(t *testing.T) {
	o := add("o", "0")
	p := set("o", "1", o)
	for _, below := range []bool{false, true} {
		for _, adds := range [][]api.Op{nil, {o}, {p}, {o, p}} {
			for _, drops := range [][]api.Op{nil, {o}, {p}, {o, p}} {
				x, gone := beside(below, adds, drops)
				s := filledBy(o, p, gone, x)
				members(t, s, "k", x.Value)
				s.Take(drop("k", x.Value, gone))
				members(t, s, "k", x.Value)
				s.Take(drop("k", x.Value, gone, x))
				members(t, s, "k")
			}
		}
	}
}

// P12.1: of a long line what comes before a Drop is dropped, and what is beside it, or comes after it, is not.
func TestDropBesideLine(t *testing.T) {
	a := []api.Op{add("o", "0")}
	for i := range 5 {
		a = append(a, add("o", strconv.Itoa(i+1), a[i]))
	}
	early, late := add("k", "x"), add("k", "x", a[5])
	for i, o := range a {
		members(t, filledBy(append(slices.Clone(a), early, late, drop("k", "x", o))...), "k", "x")
		members(t, filledBy(append(slices.Clone(a), early, drop("k", "x", o))...), "k", "x")
		members(t, filledBy(append(slices.Clone(a), late, drop("k", "x", o))...), "k", "x")
		inside := add("k", "x", o)
		list := append(slices.Clone(a), inside, by(1, add("o", "join", a[5], inside)))
		members(t, filledBy(append(list, drop("k", "x", list[len(list)-1]))...), "k")
		members(t, filledBy(append(list, drop("k", "x", a[i]))...), "k", "x")
	}
}

// P12.1: what waits, and what was refused, counts for nothing, until it is present.
func TestWaiting(t *testing.T) {
	x, y, o := add("k", "x"), add("k", "y"), add("o", "o")
	gone := drop("k", "x", x, o)
	s := filledBy(x, gone, add("k", "z", o), lost(add("k", "w")), lost(drop("k", "x", x)))
	members(t, s, "k", "x")
	sets(t, s, "k")
	wrong := add("k", "v", x)
	for _, refused := range []api.Op{deep(drop("k", "x", x), 3), deep(add("k", "v"), 2), deep(wrong, 5), by(5, add("k", "v")), by(-1, drop("k", "x", x)), {}} {
		if _, e := s.Take(refused); e == api.OK {
			t.Errorf("%x is not refused", refused)
		}
		members(t, s, "k", "x")
	}
	if got := len(s.Waits()); got != 4 {
		t.Errorf("%d wait", got)
	}
	s.Take(y)
	members(t, s, "k", "x", "y")
	s.Take(o)
	members(t, s, "k", "y", "z")
	members(t, s, "o", "o")
	s.Take(wrong)
	members(t, s, "k", "v", "y", "z")
	members(t, filledBy(gone, o, x), "k")
	members(t, filledBy(drop("k", "x", deep(x, 2)), deep(x, 2), x), "k", "x")
}

// P12.1: operations of the other kinds with the same key and value count for nothing.
func TestOtherKinds(t *testing.T) {
	x := add("k", "x")
	for _, kind := range []int{api.Set, api.Insert, api.Erase} {
		members(t, filledBy(made(kind, "k", "x")), "k")
		members(t, filledBy(made(kind, "k", "x"), drop("k", "x", made(kind, "k", "x"))), "k")
		members(t, filledBy(x, made(kind, "k", "x", x)), "k", "x")
		members(t, filledBy(x, drop("k", "x"), made(kind, "k", "x", x)), "k", "x")
		members(t, filledBy(x, drop("k", "x", x), made(kind, "k", "x", drop("k", "x", x))), "k")
		sets(t, filledBy(made(kind, "k", "x"), made(kind, "l", "x"), add("l", "y")), "l")
	}
	all := []api.Op{made(api.Set, "k", "x")}
	for _, kind := range []int{api.Insert, api.Erase, api.Drop, api.Set, api.Erase, api.Insert} {
		all = append(all, made(kind, "k", "x", all[len(all)-1]))
	}
	members(t, filledBy(all...), "k")
	members(t, filledBy(append(all, by(1, add("k", "")))...), "k", "")
}

// P12.1: of however many values there are Drops, each of them drops its own value alone, beside Drops of all values that know of no Add.
func TestManyDrops(t *testing.T) {
	var chance row = 13
	for _, beside := range []bool{false, true} {
		left := numbered(200)
		list := []api.Op{add("l", left[0])}
		var unknowing []api.Op
		for _, value := range left {
			last := list[len(list)-1]
			list = append(list, add("k", value, last))
			unknowing = append(unknowing, drop("k", value, last))
		}
		if beside {
			list = append(list, unknowing...)
		}
		s := filledBy(list...)
		members(t, s, "k", left...)
		for len(left) > 0 {
			i := chance.next(len(left))
			s.Take(by(1, drop("k", left[i], list[200])))
			left = slices.Delete(left, i, i+1)
			members(t, s, "k", left...)
			members(t, s, "l", "100000")
		}
		sets(t, s, "l")
	}
}

// P12.1: some thousands of values that are added, dropped and added again, all in one line, are found in a moment.
func TestLongHistory(t *testing.T) {
	s, values := dag.New(), numbered(4000)
	for _, one := range []struct {
		kind   int
		values []string
		want   []string
	}{
		{api.Add, values, values},
		{api.Drop, values[1000:], values[:1000]},
		{api.Add, values[3000:], slices.Concat(values[:1000], values[3000:])},
		{api.Drop, values, nil},
	} {
		for i, value := range one.values {
			o, e := s.Next(i%5, api.Draft{Kind: one.kind, Key: "k", Value: value})
			if e != api.OK {
				t.Fatalf("Next: %d", e)
			}
			s.Take(o)
		}
		members(t, s, "k", one.want...)
		sets(t, s, []string{"k"}[:min(1, len(one.want))]...)
	}
}

// P12.1: after each operation that a set takes, each call returns what the chapter words.
func TestLikeReference(t *testing.T) {
	var chance row = 3
	dropped, kept, refused, waited := 0, 0, 0, 0
	for range 30 {
		list := universe(&chance, 40)
		s := dag.New()
		for i := range list {
			j := i + chance.next(min(8, len(list)-i))
			list[i], list[j] = list[j], list[i]
			if _, e := s.Take(list[i]); e != api.OK {
				refused++
			}
			waited += len(s.Waits())
			m := modelOf(list[:i+1])
			like(t, s, m)
			for _, o := range m.list {
				if o.Kind == api.Add && m.contains(o.Key, o.Value) {
					kept++
				} else if o.Kind == api.Add {
					dropped++
				}
			}
		}
	}
	if dropped < 200 || kept < 500 || refused < 20 || waited < 500 {
		t.Errorf("%d dropped, %d kept, %d refused, %d waited", dropped, kept, refused, waited)
	}
}
