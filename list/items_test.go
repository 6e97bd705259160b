package list_test

import (
	"slices"
	"strconv"
	"strings"
	"testing"

	"tribunal/api"
	"tribunal/dag"
	"tribunal/list"
	"tribunal/op"
)

// P13.1: nil sets, empty ones, and keys without an Insert have nothing.
func TestNothing(t *testing.T) {
	x := insert("k", "x", start)
	for _, s := range []*dag.Set{
		nil, dag.New(),
		filledBy(lost(x), deep(x, 3), by(5, x)),
		filledBy(add("k", "x"), add("none", "y")),
		filledBy(erase("k", op.Name(x)), erase("none", filled(1))),
	} {
		for _, key := range []string{"", "k", "none", strings.Repeat("k", 1000)} {
			items(t, s, key)
		}
		lists(t, s)
	}
	for _, key := range []string{"", "K", "k\x00", "\x00k", "kk", "x", "none", strings.Repeat("k", 1000)} {
		items(t, filledBy(x), key)
	}
}

// P13.1: one element; the chapter's example; and the one whose Insert is deeper comes first.
func TestBeginning(t *testing.T) {
	x := insert("k", "x", start)
	inserted(t, filledBy(x), "k", x)
	b := insert("l", "b", start)
	a := insert("l", "a", start, b)
	inserted(t, filledBy(b, a), "l", a, b)
	var line, want []api.Op
	for i := range 40 {
		o := by(i%5, insert("k", strconv.Itoa(i), start, line[max(0, len(line)-1):]...))
		line, want = append(line, o), slices.Insert(want, 0, o)
		inserted(t, filledBy(line...), "k", want...)
	}
}

// P13.1: of elements inserted after the same one the last one in layer 11's order comes first: by the depths, however the names lie, and of one depth by the names.
func TestSiblings(t *testing.T) {
	root := insert("k", "root", start)
	for _, ref := range []api.Id{start, op.Name(root)} {
		low := insert("k", "low", ref, root)
		for _, below := range []bool{false, true} {
			deeper := nameBelow(below, low, func(i int) api.Op { return insert("k", strconv.Itoa(i), ref, low) })
			beside := nameBelow(below, low, func(i int) api.Op { return insert("k", strconv.Itoa(i), ref, root) })
			concurrent := nameBelow(below, low, func(i int) api.Op { return insert("k", strconv.Itoa(i), ref, add("o", "o", root)) })
			pair := []api.Op{beside, low}
			if below {
				pair = []api.Op{low, beside}
			}
			for _, one := range []struct{ list, want []api.Op }{
				{[]api.Op{low, deeper}, []api.Op{deeper, low}},
				{[]api.Op{low, beside}, pair},
				{[]api.Op{low, add("o", "o", root), concurrent}, []api.Op{concurrent, low}},
			} {
				s := filledBy(append(one.list, root)...)
				if ref == start {
					inserted(t, s, "k", append(one.want, root)...)
				} else {
					inserted(t, s, "k", append([]api.Op{root}, one.want...)...)
				}
			}
		}
	}
}

// P13.1: many of one depth, after the beginning and after one element: by descending names.
func TestManySiblings(t *testing.T) {
	root := insert("k", "root", start)
	for _, ref := range []api.Id{start, op.Name(root)} {
		var ops []api.Op
		for i := range 100 {
			ops = append(ops, by(i%5, insert("k", strconv.Itoa(i/5), ref, root)))
		}
		s := filledBy(append(ops, root)...)
		slices.SortFunc(ops, func(a, b api.Op) int { return compare(op.Name(b), op.Name(a)) })
		if ref == start {
			inserted(t, s, "k", append(ops, root)...)
		} else {
			inserted(t, s, "k", append([]api.Op{root}, ops...)...)
		}
	}
}

// P13.1: each element is immediately followed by everything inserted after it, over several levels.
func TestLevels(t *testing.T) {
	a := insert("k", "a", start)
	b := behind(a, "b")
	c := behind(b, "c")
	d := behind(c, "d")
	inserted(t, filledBy(a, b, c, d), "k", a, b, c, d)
	// One after each, later.
	after := func(o api.Op) api.Op { return insert("k", o.Value+"1", op.Name(o), d) }
	inserted(t, filledBy(a, b, c, d, after(a)), "k", a, after(a), b, c, d)
	inserted(t, filledBy(a, b, c, d, after(b)), "k", a, b, after(b), c, d)
	inserted(t, filledBy(a, b, c, d, after(c)), "k", a, b, c, after(c), d)
	inserted(t, filledBy(a, b, c, d, after(d)), "k", a, b, c, d, after(d))
	first := insert("k", "0", start, d)
	inserted(t, filledBy(a, b, c, d, after(a), after(b), after(c), after(d), first), "k", first, a, after(a), b, after(b), c, after(c), d, after(d))
	// What is after a later one comes with it; what is after an earlier one comes behind all of the later ones.
	a1 := after(a)
	a2 := insert("k", "a2", op.Name(a), a1)
	a11, a12 := behind(a1, "a11"), insert("k", "a12", op.Name(a1), a2)
	a11 = insert("k", "a11", op.Name(a1), a12)
	a21 := insert("k", "a21", op.Name(a2), a11)
	b1 := insert("k", "b1", op.Name(b), a21)
	inserted(t, filledBy(a, b, c, d, a1, a2, a12, a11, a21, b1), "k", a, a2, a21, a1, a11, a12, b, b1, c, d)
}

// P13.1: two keys have two lists, with the same values.
func TestKeysApart(t *testing.T) {
	a, b := insert("k", "a", start), insert("kk", "a", start)
	c, d := behind(a, "c"), behind(b, "c")
	s := filledBy(a, b, c, d, add("k", "x"), without(d))
	items(t, s, "k", elements(a, c)...)
	items(t, s, "kk", there(b), gone(d))
	lists(t, s, "k", "kk")
}

// P13.1: an Insert whose Ref is not an element of the list is not in it, nor is what is inserted after such a one.
func TestNoElement(t *testing.T) {
	x := insert("k", "x", start)
	other, plus := insert("l", "x", start, x), add("k", "x", x)
	first := []api.Op{
		x,
		// Present, but no elements of this list.
		other, behind(other, "y"), plus, erase("k", filled(7), x),
		made(api.Draft{Kind: api.Set, Key: "k", Value: "x"}, x),
		made(api.Draft{Kind: api.Drop, Key: "k", Value: "x"}, plus),
		// Waiting, or refused.
		lost(insert("k", "w", start)), deep(insert("k", "f", start, x), 4), by(5, insert("k", "g", start)),
	}
	missing := by(1, x)
	low, high := op.Name(x), op.Name(x)
	low[31] ^= 1
	high[0] ^= 0x80
	refs := append(named(first[1:]...), filled(1), filled(0xff), api.Id{1}, api.Id{31: 1}, low, high, op.Name(missing))
	for _, ref := range refs {
		o := insert("k", "o", ref, x, other)
		p := behind(o, "p")
		q, r := behind(p, "q"), insert("k", "r", op.Name(o), p)
		s := filledBy(append(slices.Clone(first), o, p, q, r, without(p), erase("k", op.Name(o), o))...)
		if _, e := s.Get(op.Name(r)); e != api.OK {
			t.Fatalf("%x: %d", ref, e)
		}
		inserted(t, s, "k", x)
		lists(t, s, "k", "l")
		if ref != op.Name(missing) {
			continue
		}
		// With their Ref all of them are there.
		s.Take(missing)
		want := []list.Item{there(missing), gone(o), there(r), gone(p), there(q)}
		if less(op.Name(missing), op.Name(x)) {
			want = slices.Insert(want, 0, there(x))
		} else {
			want = append(want, there(x))
		}
		items(t, s, "k", want...)
	}
}

// P13.1: what a waiting Insert would be the Ref of is in the list as soon as that one is present.
func TestWaiting(t *testing.T) {
	x := insert("k", "x", start)
	y := behind(x, "y")
	z := insert("k", "z", op.Name(y))
	s := filledBy(y, z, erase("k", op.Name(y)))
	items(t, s, "k")
	lists(t, s)
	s.Take(x)
	items(t, s, "k", there(x), gone(y), there(z))
	lists(t, s, "k")
}

// P13.1: an Insert that comes in layer 11's order ahead of the one that its Ref names is in the list after its Ref.
func TestAheadOfRef(t *testing.T) {
	o := add("o", "o")
	x := insert("k", "x", start, o, add("o", "p", o))
	early, late := insert("k", "early", op.Name(x)), behind(x, "late")
	more := by(2, insert("k", "more", op.Name(early)))
	for _, ops := range [][]api.Op{{early, more, o, add("o", "p", o), x, late}, {late, x, add("o", "p", o), o, more, early}} {
		s := filledBy(ops...)
		inserted(t, s, "k", x, late, early, more)
	}
	// Beside it, with a lesser name.
	for _, below := range []bool{false, true} {
		x := insert("k", "x", start)
		y := nameBelow(below, x, func(i int) api.Op { return insert("k", strconv.Itoa(i), op.Name(x)) })
		inserted(t, filledBy(x, y), "k", x, y)
		z := nameBelow(below, y, func(i int) api.Op { return insert("k", strconv.Itoa(i), op.Name(y)) })
		inserted(t, filledBy(z, y, x), "k", x, y, z)
		if below {
			inserted(t, filledBy(x, z), "k", x)
		}
	}
	// A list whose Inserts come in just the other order.
	var ops, want []api.Op
	ref := start
	for i := range 30 {
		preds := []api.Op{}
		for j := range 30 - i {
			preds = append(preds[:0], add("o", strconv.Itoa(j), preds...))
			ops = append(ops, preds[0])
		}
		o := insert("k", strconv.Itoa(i), ref, preds...)
		ops, want, ref = append(ops, o), append(want, o), op.Name(o)
	}
	inserted(t, filledBy(ops...), "k", want...)
}

// P13.1: an element is erased, if there is an Erase with its key and its name, and only then.
func TestGone(t *testing.T) {
	x, y := insert("k", "x", start), insert("l", "x", start)
	z := behind(x, "z")
	list := []api.Op{x, y, z}
	for i, one := range []struct {
		more                []api.Op
		goneX, goneY, goneZ bool
	}{
		{nil, false, false, false},
		{[]api.Op{without(x)}, true, false, false},
		{[]api.Op{without(z)}, false, false, true},
		{[]api.Op{without(x), without(z), without(y)}, true, true, true},
		// Several; whose they are; without having known it.
		{[]api.Op{without(x), by(1, without(x)), erase("k", op.Name(x), without(x))}, true, false, false},
		{[]api.Op{by(4, erase("k", op.Name(x)))}, true, false, false},
		{[]api.Op{erase("k", op.Name(z))}, false, false, true},
		{[]api.Op{erase("k", op.Name(z), x)}, false, false, true},
		// Another key.
		{[]api.Op{erase("l", op.Name(x), x)}, false, false, false},
		{[]api.Op{erase("k", op.Name(y), x, y)}, false, false, false},
		{[]api.Op{erase("K", op.Name(x), x), erase("kk", op.Name(x), x), erase("k\x00", op.Name(x), x), erase("x", op.Name(x), x)}, false, false, false},
		{[]api.Op{erase("l", op.Name(x), x), without(x)}, true, false, false},
		// Not an element.
		{[]api.Op{erase("k", filled(1), x), erase("k", filled(0xff), x)}, false, false, false},
		{[]api.Op{erase("k", op.Name(by(1, x)), x)}, false, false, false},
		{[]api.Op{erase("k", op.Name(without(x)), x)}, false, false, false},
		{[]api.Op{without(x), erase("k", op.Name(without(x)), without(x))}, true, false, false},
		{[]api.Op{add("k", "x", x), erase("k", op.Name(add("k", "x", x)), add("k", "x", x))}, false, false, false},
		// An Erase that isn't present.
		{[]api.Op{lost(without(x)), by(5, without(x)), deep(without(x), 3)}, false, false, false},
		{[]api.Op{erase("k", op.Name(x), lost(x))}, false, false, false},
		// Other kinds, with the same words.
		{[]api.Op{made(api.Draft{Kind: api.Drop, Key: "k", Value: "x"}, x)}, false, false, false},
		{[]api.Op{made(api.Draft{Kind: api.Set, Key: "k", Value: ""}, x)}, false, false, false},
	} {
		ops := append(slices.Clone(list), one.more...)
		backwards := slices.Clone(ops)
		slices.Reverse(backwards)
		for _, ops := range [][]api.Op{ops, backwards} {
			s := filledBy(ops...)
			ex, ey, ez := there(x), there(y), there(z)
			ex.Gone, ey.Gone, ez.Gone = one.goneX, one.goneY, one.goneZ
			items(t, s, "k", ex, ez)
			items(t, s, "l", ey)
			like(t, s, modelOf(ops))
		}
		if t.Failed() {
			t.Fatalf("in case %d", i)
		}
	}
}

// P13.1: an Insert after an erased element is in the list, and not erased; each element between others can be erased.
func TestAfterGone(t *testing.T) {
	x := insert("k", "x", start)
	y := insert("k", "y", op.Name(x), without(x))
	z := behind(y, "z")
	s := filledBy(x, without(x), y)
	items(t, s, "k", gone(x), there(y))
	lists(t, s, "k")
	s.Take(z)
	s.Take(without(y))
	items(t, s, "k", gone(x), gone(y), there(z))
	lists(t, s, "k")
	s.Take(without(z))
	items(t, s, "k", gone(x), gone(y), gone(z))
	lists(t, s)
	first := insert("k", "first", start, without(x))
	s.Take(first)
	items(t, s, "k", there(first), gone(x), gone(y), gone(z))
	lists(t, s, "k")
	for mask := range 1 << 6 {
		ops := []api.Op{insert("k", "0", start)}
		for i := range 5 {
			ops = append(ops, behind(ops[i], strconv.Itoa(i+1)))
		}
		want := elements(ops...)
		for i := range want {
			if mask>>i&1 == 1 {
				want[i].Gone = true
				ops = append(ops, without(ops[i]))
			}
		}
		items(t, filledBy(ops...), "k", want...)
	}
}

// P13.1: values that are the same, or empty, or of all bytes, are those of different elements.
func TestValues(t *testing.T) {
	x := insert("k", "", start)
	y, z := behind(x, ""), behind(behind(x, ""), "")
	items(t, filledBy(x, y, z, without(y)), "k", there(x), gone(y), there(z))
	long := strings.Repeat("\xff", 64)
	a, b, c := insert("l", long, z.Ref), insert("l", "\x00\xff\n", start), insert("l", "é", start)
	s := filledBy(x, y, z, a, b, behind(b, long), behind(behind(b, long), long), c, by(1, c), by(2, c))
	if got := list.Read(s, "k"); !slices.Equal(got, []string{"", "", ""}) {
		t.Errorf("%q", got)
	}
	like(t, s, modelOf([]api.Op{x, y, z, a, b, behind(b, long), behind(behind(b, long), long), c, by(1, c), by(2, c)}))
	if got := list.Read(s, "l"); len(got) != 6 {
		t.Errorf("%q", got)
	}
}

// P13.1: a list of thousands of elements, each after the one ahead of it, or all after the beginning.
func TestLong(t *testing.T) {
	s := dag.New()
	var down, up []list.Item
	var preds []api.Op
	ref := start
	for i := range 6000 {
		o := insert("k", strconv.Itoa(i), ref, preds...)
		p := insert("l", strconv.Itoa(i), start, o)
		preds, ref = []api.Op{p}, op.Name(o)
		s.Take(o)
		s.Take(p)
		down, up = append(down, there(o)), append(up, there(p))
	}
	slices.Reverse(up)
	if !slices.Equal(list.Items(s, "k"), down) || !slices.Equal(list.Items(s, "l"), up) {
		t.Error("Items")
	}
	lists(t, s, "k", "l")
}

// P13.1: in drawn sets, after each operation that they take, the four results are those of the reference.
func TestLikeReference(t *testing.T) {
	var chance row = 3
	elements, erased := 0, 0
	for range 12 {
		s := dag.New()
		ops := universe(&chance, 60)
		for i, o := range ops {
			s.Take(o)
			like(t, s, modelOf(ops[:i+1]))
		}
		for _, x := range list.Items(s, "a") {
			elements++
			if x.Gone {
				erased++
			}
		}
	}
	if elements < 150 || erased < 20 {
		t.Errorf("only %d elements, %d of them erased", elements, erased)
	}
}
