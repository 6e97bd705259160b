package list_test

import (
	"slices"
	"strconv"
	"strings"
	"testing"

	"tribunal/api"
	"tribunal/list"
	"tribunal/op"
)

// P13.1: Read has the values of those that are not erased, in their order, as often as they are there.
func TestRead(t *testing.T) {
	a := insert("k", "a", start)
	b := behind(a, "b")
	c := behind(b, "a")
	d := behind(c, "")
	for _, one := range []struct {
		gone []api.Op
		want []string
	}{
		{nil, []string{"a", "b", "a", ""}},
		{[]api.Op{a}, []string{"b", "a", ""}},
		{[]api.Op{b}, []string{"a", "a", ""}},
		{[]api.Op{c}, []string{"a", "b", ""}},
		{[]api.Op{d}, []string{"a", "b", "a"}},
		{[]api.Op{a, c}, []string{"b", ""}},
		{[]api.Op{a, b, c}, []string{""}},
		{[]api.Op{a, b, c, d}, nil},
	} {
		s := filledBy(a, b, c, d)
		for _, o := range one.gone {
			s.Take(without(o))
		}
		if got := list.Read(s, "k"); !slices.Equal(got, one.want) {
			t.Errorf("%q, not %q", got, one.want)
		}
	}
}

// P13.1: At has the names of those that are not erased, by their numbers among these alone.
func TestAt(t *testing.T) {
	a := insert("k", "a", start)
	b := behind(a, "b")
	c := behind(b, "c")
	s := filledBy(a, b, c)
	at := func(want ...api.Op) {
		t.Helper()
		for n := -5; n < 8; n++ {
			name, e := list.At(s, "k", n)
			if n < 0 || n >= len(want) {
				if name != start || e != api.ErrNone {
					t.Errorf("%d: %x, %d, not ErrNone", n, name, e)
				}
			} else if name != op.Name(want[n]) || e != api.OK {
				t.Errorf("%d: %x, %d, not %q", n, name, e, want[n].Value)
			}
		}
	}
	at(a, b, c)
	s.Take(without(b))
	at(a, c)
	s.Take(without(a))
	at(c)
	s.Take(without(c))
	at()
	s.Take(insert("k", "d", op.Name(b), c))
	if name, e := list.At(s, "k", 0); name != op.Name(insert("k", "d", op.Name(b), c)) || e != api.OK {
		t.Errorf("%x, %d", name, e)
	}
}

// P13.1: Lists has the keys of the lists with something to read, and no others.
func TestLists(t *testing.T) {
	x := insert("k", "x", start)
	for _, one := range []struct {
		list []api.Op
		want []string
	}{
		{nil, nil},
		{[]api.Op{x}, []string{"k"}},
		{[]api.Op{x, behind(x, "y")}, []string{"k"}},
		{[]api.Op{insert("k", "", start)}, []string{"k"}},
		// Only erased ones; one of several erased.
		{[]api.Op{x, without(x)}, nil},
		{[]api.Op{x, behind(x, "y"), without(x)}, []string{"k"}},
		{[]api.Op{x, behind(x, "y"), without(behind(x, "y"))}, []string{"k"}},
		{[]api.Op{x, behind(x, "y"), without(x), without(behind(x, "y"))}, nil},
		{[]api.Op{x, without(x), by(1, x)}, []string{"k"}},
		{[]api.Op{x, insert("l", "x", start), without(x)}, []string{"l"}},
		{[]api.Op{x, insert("l", "x", start, x), erase("l", op.Name(x), x)}, []string{"k", "l"}},
		// No elements.
		{[]api.Op{insert("k", "x", filled(1))}, nil},
		{[]api.Op{x, insert("l", "x", op.Name(x), x)}, []string{"k"}},
		{[]api.Op{add("k", "x"), made(api.Draft{Kind: api.Set, Key: "l", Value: "x"}), erase("m", filled(1))}, nil},
		{[]api.Op{lost(x), by(5, insert("l", "x", start)), deep(insert("m", "x", start), 2)}, nil},
		// An Erase that is there ahead of its element.
		{[]api.Op{erase("k", op.Name(x)), x}, nil},
	} {
		lists(t, filledBy(one.list...), one.want...)
		like(t, filledBy(one.list...), modelOf(one.list))
	}
}

// P13.1: the keys are in ascending order, bytewise, each once, one that is the beginning of another one ahead of it.
func TestListsAscending(t *testing.T) {
	long := strings.Repeat("z", 16)
	keys := []string{"\x00", "\x00\x00", "\x00a", "\x01", "10", "9", "A", "B", "a", "a\x00", "aa", "ab", "a\xff", "b", "ba", "é", long[:15], long, "\xff", "\xff\x00", "\xff\xff"}
	slices.Sort(keys)
	var up, down []api.Op
	for i := range keys {
		up = append(up, by(i%5, insert(keys[i], "x", start)), insert(keys[i], "y", start))
		down = append(down, insert(keys[len(keys)-1-i], strconv.Itoa(i), start, down[max(0, len(down)-1):]...))
	}
	for _, ops := range [][]api.Op{up, down, append(slices.Clone(down), up...)} {
		lists(t, filledBy(ops...), keys...)
	}
	// Each second one with something to read.
	s := filledBy(down...)
	var odd []string
	for i, key := range keys {
		if i%2 == 1 {
			odd = append(odd, key)
			continue
		}
		name, e := list.At(s, key, 0)
		if e != api.OK {
			t.Fatalf("At: %d", e)
		}
		s.Take(erase(key, name))
	}
	lists(t, s, odd...)
}

// P13.1: thousands of keys, each with a list.
func TestManyLists(t *testing.T) {
	s := filledBy()
	var want []string
	for i := range 8000 {
		key := strconv.Itoa(10000 + i)
		s.Take(insert(key, "", start))
		if i%3 == 0 {
			s.Take(without(insert(key, "", start)))
		} else {
			want = append(want, key)
		}
	}
	lists(t, s, want...)
}
