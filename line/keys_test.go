package line_test

import (
	"slices"
	"strconv"
	"strings"
	"testing"

	"tribunal/api"
	"tribunal/dag"
	"tribunal/line"
)

// mixed is a line of operations of all kinds on these keys, each kind on each of them: so the row's order is that of the list.
func mixed(keys ...string) []api.Op {
	var list []api.Op
	for kind := 1; kind <= 5; kind++ {
		for _, key := range keys {
			var preds []api.Op
			if len(list) > 0 {
				preds = list[len(list)-1:]
			}
			list = append(list, made(draft(kind, key, strconv.Itoa(len(list))), preds...))
		}
	}
	return list
}

// P11.1: Of returns those with the key and one of the kinds, in the row's order; a kind that is named twice counts once, one that is none not at all.
func TestOf(t *testing.T) {
	list := mixed("a", "b", "ab")
	s := filledBy(list...)
	// The operations on a are 0, 3, 6, 9 and 12.
	a := func(places ...int) []api.Op {
		var some []api.Op
		for _, place := range places {
			some = append(some, list[place])
		}
		return some
	}
	for _, one := range []struct {
		kinds []int
		want  []api.Op
	}{
		{nil, nil},
		{[]int{}, nil},
		{[]int{api.Add}, a(0)},
		{[]int{api.Drop}, a(3)},
		{[]int{api.Set}, a(6)},
		{[]int{api.Insert}, a(9)},
		{[]int{api.Erase}, a(12)},
		{[]int{api.Add, api.Drop}, a(0, 3)},
		{[]int{api.Drop, api.Add}, a(0, 3)},
		{[]int{api.Erase, api.Insert, api.Add}, a(0, 9, 12)},
		{[]int{5, 4, 3, 2, 1}, a(0, 3, 6, 9, 12)},
		{[]int{1, 2, 3, 4, 5}, a(0, 3, 6, 9, 12)},
		{[]int{api.Set, api.Set}, a(6)},
		{[]int{api.Set, api.Add, api.Set, api.Add}, a(0, 6)},
		{[]int{0}, nil},
		{[]int{6}, nil},
		{[]int{-1}, nil},
		{[]int{bottom, top}, nil},
		{[]int{257, 1<<32 + 1, -255}, nil},
		{[]int{0, api.Add, 6}, a(0)},
		{[]int{bottom, api.Erase, top, -3}, a(12)},
	} {
		rows(t, "Of a", line.Of(s, "a", one.kinds...), one.want)
	}
}

// P11.1: only the very key counts: none that is there has others' operations, and none that isn't has any.
func TestOfKeys(t *testing.T) {
	list := mixed("a", "ab", "a\x00", "A", strings.Repeat("a", 16))
	s := filledBy(list...)
	for _, key := range []string{"a", "ab", "a\x00", "A", strings.Repeat("a", 16)} {
		want := of(list, key, []int{1, 2, 3, 4, 5})
		if len(want) != 5 {
			t.Fatalf("%q: %x", key, want)
		}
		rows(t, "Of", line.Of(s, key, 1, 2, 3, 4, 5), want)
	}
	for _, key := range []string{"", "b", "aa", "abc", "\x00", "a\x00\x00", "a ", strings.Repeat("a", 15), strings.Repeat("a", 17), strings.Repeat("a", 5000)} {
		for _, kinds := range [][]int{nil, {1}, {1, 2, 3, 4, 5}, {0}} {
			if got := line.Of(s, key, kinds...); len(got) != 0 {
				t.Errorf("%q: %x", key, got)
			}
		}
	}
}

// P11.1: those of Of are in the row's order, not in that of the kinds, the values or the arrivals: of one Depth by their names.
func TestOfInOrder(t *testing.T) {
	var list []api.Op
	for i := range 200 {
		o := made(draft(1+i%5, []string{"a", "b"}[i%2], strconv.Itoa(i)))
		list = append(list, o, made(draft(1+i%3, "a", "more"+strconv.Itoa(i)), o))
	}
	slices.Reverse(list)
	s := filledBy(list...)
	want := inOrder(list)
	for _, kinds := range [][]int{{1}, {3, 1}, {5, 2}, {1, 2, 3, 4, 5}} {
		for _, key := range []string{"a", "b"} {
			rows(t, "Of", line.Of(s, key, kinds...), of(want, key, kinds))
		}
	}
}

// P11.1: Keys are in ascending order, bytewise, one that is the beginning of another one ahead of it.
func TestKeysAscending(t *testing.T) {
	want := []string{"\x00", "\x00\x00", "\x00a", "\x01", "A", "B", "a", "a\x00", "aa", "aaaaaaaaaaaaaaaa", "ab", "a\xff", "b", "ba", "é", "\xff", "\xff\x00", "\xff\xff"}
	for _, list := range [][]string{want, reversed(want)} {
		s := filledBy(mixed(list...)...)
		for _, kinds := range [][]int{{1}, {2}, {3}, {4}, {5}, {2, 2}, {1, 2, 3, 4, 5}, {9, 5}} {
			if got := line.Keys(s, kinds...); !slices.Equal(got, want) {
				t.Errorf("%v: %q", kinds, got)
			}
		}
		for _, kinds := range [][]int{nil, {}, {0}, {6}, {-1}, {bottom, top}, {257}} {
			if got := line.Keys(s, kinds...); len(got) != 0 {
				t.Errorf("%v: %q", kinds, got)
			}
		}
	}
}

// reversed is a list from its end to its beginning.
func reversed(list []string) []string {
	list = slices.Clone(list)
	slices.Reverse(list)
	return list
}

// P11.1: Keys has a key only if an operation of one of the kinds has it, and once, however many do.
func TestKeysOfKinds(t *testing.T) {
	s := dag.New()
	for i := range 40 {
		key := string([]byte{byte('e' - i%5)})
		s.Take(made(draft(1+i%5, key, strconv.Itoa(i))))
		o, _ := s.Next(i%5, draft(1+i%5, key, "next"+strconv.Itoa(i)))
		s.Take(o)
	}
	for _, one := range []struct {
		kinds []int
		want  []string
	}{
		{nil, nil},
		{[]int{api.Add}, []string{"e"}},
		{[]int{api.Drop}, []string{"d"}},
		{[]int{api.Set}, []string{"c"}},
		{[]int{api.Insert}, []string{"b"}},
		{[]int{api.Erase}, []string{"a"}},
		{[]int{api.Add, api.Erase}, []string{"a", "e"}},
		{[]int{api.Erase, api.Add}, []string{"a", "e"}},
		{[]int{api.Drop, api.Drop}, []string{"d"}},
		{[]int{1, 2, 3, 4, 5}, []string{"a", "b", "c", "d", "e"}},
		{[]int{0, 3, 6, 3, bottom}, []string{"c"}},
		{[]int{0, 6, 7, -1, top}, nil},
	} {
		if got := line.Keys(s, one.kinds...); !slices.Equal(got, one.want) {
			t.Errorf("%v: %q, not %q", one.kinds, got, one.want)
		}
	}
}

// P11.1: very many kinds take no longer than there are kinds and operations.
func TestManyKinds(t *testing.T) {
	list := mixed("a", "b")
	s := filledBy(list...)
	kinds := make([]int, 1<<20)
	for i := range kinds {
		kinds[i] = i - 1<<19
	}
	rows(t, "Of", line.Of(s, "b", kinds...), of(list, "b", []int{1, 2, 3, 4, 5}))
	if got := line.Keys(s, kinds...); !slices.Equal(got, []string{"a", "b"}) {
		t.Errorf("%q", got)
	}
}
