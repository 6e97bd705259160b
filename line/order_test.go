package line_test

import (
	"slices"
	"strconv"
	"testing"

	"tribunal/api"
	"tribunal/dag"
	"tribunal/line"
	"tribunal/op"
)

// ordered fails, unless Order and Row are just these operations, in this order.
func ordered(t *testing.T, s *dag.Set, list ...api.Op) {
	t.Helper()
	if got, want := line.Order(s), named(list...); !slices.Equal(got, want) {
		t.Errorf("Order: %v, not %v", short(got), short(want))
	}
	rows(t, "Row", line.Row(s), list)
}

// P11.1: a nil set, and one without operations that are present, has nothing, whatever is asked.
func TestNothing(t *testing.T) {
	waits := filledBy(behind("w", 2, filled(1)), behind("v", 7, filled(2), filled(3)))
	if len(waits.Waits()) != 2 {
		t.Fatal("nothing waits")
	}
	for _, s := range []*dag.Set{nil, dag.New(), waits, filledBy(deep(after("a"), 2), api.Op{})} {
		ordered(t, s)
		for _, kinds := range choices() {
			for _, key := range []string{"k", "", "none"} {
				if got := line.Of(s, key, kinds...); len(got) != 0 {
					t.Errorf("Of %q, %v: %x", key, kinds, got)
				}
			}
			if got := line.Keys(s, kinds...); len(got) != 0 {
				t.Errorf("Keys of %v: %q", kinds, got)
			}
		}
	}
}

// P11.1: one operation, of any kind, is the whole order, with all that it has.
func TestOne(t *testing.T) {
	for kind := 1; kind <= 5; kind++ {
		for author := range 5 {
			o := made(draft(kind, "key\x00\xff", "value"))
			o.Author = author
			ordered(t, filledBy(o), o)
		}
	}
}

// P11.1: of two operations without Preds, the one with the lesser name comes first, whichever arrived first, and whatever else they have.
func TestExample(t *testing.T) {
	x := made(draft(api.Add, "x", ""))
	y := first(x, func(value string) api.Op {
		o := made(draft(api.Set, "y", value))
		o.Author = 4
		return o
	})
	for _, s := range []*dag.Set{filledBy(x, y), filledBy(y, x)} {
		ordered(t, s, y, x)
	}
}

// P11.1: of one Depth the names are in ascending order, bytewise: many, so that also names with the same first bytes are among them.
func TestOneDepth(t *testing.T) {
	root := after("root")
	var list, upper []api.Op
	for i := range 1200 {
		o := after("a" + strconv.Itoa(i))
		o.Author = i % 5
		list = append(list, o)
		upper = append(upper, after("b"+strconv.Itoa(i), root))
	}
	s := filledBy(list...)
	if got, want := line.Order(s), sorted(named(list...)...); !slices.Equal(got, want) {
		t.Errorf("%v, not %v", short(got), short(want))
	}
	want := append(sorted(named(append(list, root)...)...), sorted(named(upper...)...)...)
	s = filledBy(append(append(upper, list...), root)...)
	if got := line.Order(s); !slices.Equal(got, want) {
		t.Errorf("%v, not %v", short(got), short(want))
	}
	if got := named(line.Row(s)...); !slices.Equal(got, want) {
		t.Errorf("%v, not %v", short(got), short(want))
	}
}

// P11.1: the lesser Depth comes first, whatever the names: here each one's name is less than that of the one before it.
func TestDepths(t *testing.T) {
	a := after("a")
	b := first(a, func(value string) api.Op { return after(value, a) })
	c := first(b, func(value string) api.Op { return after(value, b) })
	d := first(c, func(value string) api.Op { return after(value, a, c) })
	for _, s := range []*dag.Set{filledBy(a, b, c, d), filledBy(d, c, b, a), filledBy(c, a, d, b)} {
		ordered(t, s, a, b, c, d)
	}
}

// P11.1: the lesser Depth comes first among operations that don't build on each other, too; the number of all before one doesn't count.
func TestDepthsApart(t *testing.T) {
	a := after("a")
	b := after("b", a)
	c := after("c", b)
	var roots []api.Op
	for _, value := range []string{"0", "1", "2", "3"} {
		roots = append(roots, after(value))
	}
	// It has four before it, more than c, and is less deep.
	join := first(c, func(value string) api.Op { return after(value, roots...) })
	late := first(a, func(value string) api.Op { return after(value, c) })
	ones := inOrder(append([]api.Op{a}, roots...))
	twos := inOrder([]api.Op{b, join})
	want := append(append(ones, twos...), c, late)
	ordered(t, filledBy(append([]api.Op{late, c, b, join, a}, roots...)...), want...)
	ordered(t, filledBy(want...), want...)
}

// P11.1: Depths of several digits, and of more than a byte, are numbers: a long line is in the order of its Depths.
func TestLongLine(t *testing.T) {
	var list, beside []api.Op
	for i := range 300 {
		var preds []api.Op
		if i > 0 {
			preds = list[i-1:]
		}
		list = append(list, after(strconv.Itoa(i), preds...))
		beside = append(beside, after("beside"+strconv.Itoa(i), preds...))
	}
	ordered(t, filledBy(list...), list...)
	backwards := slices.Clone(list)
	slices.Reverse(backwards)
	ordered(t, filledBy(backwards...), list...)
	var want []api.Op
	for i := range list {
		if less(op.Name(list[i]), op.Name(beside[i])) {
			want = append(want, list[i], beside[i])
		} else {
			want = append(want, beside[i], list[i])
		}
	}
	ordered(t, filledBy(append(beside, backwards...)...), want...)
}

// P11.1: those that wait, and those that were refused, are not among them, until they become present.
func TestWaiting(t *testing.T) {
	a, b := after("a"), after("b")
	c := after("c", a, b)
	d := after("d", c)
	s := filledBy(a, d, c, deep(after("x", a), 3), deep(after("y"), 2), api.Op{Draft: draft(api.Add, "k", "z"), Author: 5, Depth: 1}, a)
	if got := s.Waits(); len(got) != 2 {
		t.Fatalf("%v wait", short(got))
	}
	ordered(t, s, a)
	rows(t, "Of", line.Of(s, "k", api.Add), []api.Op{a})
	s.Take(b)
	both := inOrder([]api.Op{a, b})
	ordered(t, s, both[0], both[1], c, d)
	rows(t, "Of", line.Of(s, "k", api.Add), []api.Op{both[0], both[1], c, d})
	w := made(draft(api.Set, "w", "v"), d, behind("absent", 2, filled(1)))
	s.Take(w)
	ordered(t, s, both[0], both[1], c, d)
	if got := line.Keys(s, api.Add, api.Set); !slices.Equal(got, []string{"k"}) {
		t.Errorf("%q", got)
	}
	if got := line.Of(s, "w", api.Set); len(got) != 0 {
		t.Errorf("%x", got)
	}
}

// P11.1: Row has the operations of Order, one by one, with all that they have: drafts of all kinds, authors, many Preds.
func TestWholeOperations(t *testing.T) {
	var list []api.Op
	for i := range 32 {
		o := made(draft(1+i%5, "key"+strconv.Itoa(i%3), strconv.Itoa(i)))
		o.Author = i % 5
		list = append(list, o)
	}
	insert := api.Draft{Kind: api.Insert, Key: "sixteen bytes ..", Value: "v\x00\xff", Ref: op.Name(list[3])}
	join := made(insert, list...)
	join.Author = 3
	last := made(api.Draft{Kind: api.Erase, Key: "\x00", Ref: op.Name(join)}, join, list[0])
	last.Author = 4
	list = append(list, join, last)
	s := filledBy(list...)
	names, row := line.Order(s), line.Row(s)
	if len(names) != len(list) || len(row) != len(list) {
		t.Fatalf("%d, %d", len(names), len(row))
	}
	for i, name := range names {
		o, e := s.Get(name)
		if e != api.OK || !same(row[i], o) || op.Name(row[i]) != name {
			t.Errorf("%d: %x, not %x", i, row[i], o)
		}
	}
	if !same(row[32], join) || len(row[32].Preds) != 32 || !same(row[33], last) {
		t.Errorf("%x", row[32:])
	}
	like(t, s, list)
}

// P11.1: after each operation that a set takes, each call returns what the chapter words.
func TestLikeReference(t *testing.T) {
	var chance row = 3
	refused, waited := 0, 0
	for range 4 {
		list := universe(&chance, 30)
		s := dag.New()
		for i := range list {
			j := i + chance.next(len(list)-i)
			list[i], list[j] = list[j], list[i]
			if _, e := s.Take(list[i]); e != api.OK {
				refused++
			}
			waited += len(s.Waits())
			like(t, s, held(list[:i+1]))
		}
	}
	if refused < 5 || waited < 50 {
		t.Errorf("%d were refused, %d waited", refused, waited)
	}
}
