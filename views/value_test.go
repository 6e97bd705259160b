package views_test

import (
	"slices"
	"strconv"
	"strings"
	"testing"

	"tribunal/api"
	"tribunal/dag"
)

// P12.1: a nil set, an empty one, and one without operations that are present, has nothing, whatever is asked.
func TestNothing(t *testing.T) {
	waits := filledBy(lost(add("k", "x")), lost(set("k", "x")), lost(set("", "x")))
	if len(waits.Waits()) != 2 {
		t.Fatal("nothing waits")
	}
	for _, s := range []*dag.Set{nil, dag.New(), waits, filledBy(deep(set("k", "x"), 2), add("", "x"), api.Op{})} {
		for _, key := range []string{"", "k", "\x00", "none", strings.Repeat("k", 1000)} {
			members(t, s, key)
			value(t, s, key, "", false)
		}
		sets(t, s)
		registers(t, s)
	}
}

// P12.1: a register without a Set has nothing; with one it has its value, also the empty string; only the very key counts.
func TestOneSet(t *testing.T) {
	long := strings.Repeat("\xff", 64)
	for _, text := range []string{"", "x", "\x00", "a b", long} {
		s := filledBy(by(3, set("k", text)))
		value(t, s, "k", text, true)
		for _, key := range []string{"", "K", "kk", "k\x00", "\x00k", "x", strings.Repeat("k", 1000)} {
			value(t, s, key, "", false)
		}
	}
}

// P12.1: of several Sets the deepest one counts, whatever the names; of equally deep ones that of the greatest name.
func TestLastSet(t *testing.T) {
	root := add("o", "o")
	for _, below := range []bool{false, true} {
		first := set("k", "first")
		deeper := nameBelow(below, first, func(i int) api.Op { return set("k", strconv.Itoa(i), root) })
		deepest := nameBelow(below, deeper, func(i int) api.Op { return set("k", "z"+strconv.Itoa(i), set("o", "p", root)) })
		list := []api.Op{root, set("o", "p", root), deepest, first, deeper}
		for range list {
			list = append(list[1:], list[0])
			value(t, filledBy(list...), "k", deepest.Value, true)
		}
		value(t, filledBy(deeper, root, first), "k", deeper.Value, true)
		other := nameBelow(below, first, func(i int) api.Op { return set("k", strconv.Itoa(i)) })
		want := other.Value
		if below {
			want = "first"
		}
		value(t, filledBy(first, other), "k", want, true)
		value(t, filledBy(other, first), "k", want, true)
		// A value that is less, or greater, doesn't matter.
		value(t, filledBy(first, set("k", "", first)), "k", "", true)
		value(t, filledBy(set("k", "z"), set("k", "a", set("k", "z"))), "k", "a", true)
	}
}

// P12.1: of very many equally deep Sets the one of the greatest name counts; a Set behind them all counts before them.
func TestManySets(t *testing.T) {
	var list []api.Op
	last := set("k", "0")
	for i := range 32 {
		o := by(i%5, set("k", strconv.Itoa(i)))
		if slices.Equal(sorted(o, last), sorted(last)) || slices.Equal(sorted(o, last)[1:], sorted(o)) {
			last = o
		}
		list = append(list, o)
	}
	value(t, filledBy(list...), "k", last.Value, true)
	slices.Reverse(list)
	value(t, filledBy(list...), "k", last.Value, true)
	value(t, filledBy(append(list, set("k", "", list...))...), "k", "", true)
	var line []api.Op
	for i := range 300 {
		line = append(line, set("k", strconv.Itoa(i), line[max(0, i-1):]...))
	}
	value(t, filledBy(append(list, line...)...), "k", "299", true)
}

// P12.1: operations of the other kinds, those on other keys, and those that aren't present, don't count for a register.
func TestOtherThanSets(t *testing.T) {
	x := set("k", "x")
	for _, kind := range []int{api.Add, api.Drop, api.Insert, api.Erase} {
		value(t, filledBy(made(kind, "k", "y")), "k", "", false)
		value(t, filledBy(x, made(kind, "k", "y", x)), "k", "x", true)
		value(t, filledBy(x, made(kind, "k", "x", x)), "k", "x", true)
		registers(t, filledBy(x, made(kind, "k", "y", x), made(kind, "l", "y", x)), "k")
		registers(t, filledBy(made(kind, "k", "y")))
	}
	s := filledBy(x, set("kk", "y", x), set("K", "z", x), lost(set("k", "w")), deep(set("k", "v", x), 3), by(5, set("k", "u", x)), set("k", "t", add("o", "o")))
	value(t, s, "k", "x", true)
	s.Take(add("o", "o"))
	value(t, s, "k", "t", true)
}

// P12.1: Sets has the keys whose sets contain something, in ascending order, bytewise, each once; keys whose values are all dropped, and keys of other kinds, are not among them.
func TestSets(t *testing.T) {
	keys := []string{"\x00", "\x00\x00", "A", "a", "a\x00", "aa", "ab", "b", "é", "\xff", "\xff\x00", strings.Repeat("\xff", 16)}
	var list []api.Op
	for i := range keys {
		// In another order than the ascending one.
		key := keys[(7*i+5)%len(keys)]
		one, two := add(key, "x", list[max(0, len(list)-1):]...), add(key, "y", list[max(0, len(list)-1):]...)
		list = append(list, one, two, by(1, two))
	}
	sets(t, filledBy(list...), keys...)
	registers(t, filledBy(list...))
	for i, key := range keys {
		var adds []api.Op
		for _, o := range list {
			if o.Key == key {
				adds = append(adds, o)
			}
		}
		all := append(slices.Clone(list), drop(key, "x", adds...), drop(key, "y", adds[:2]...))
		sets(t, filledBy(all...), keys...)
		members(t, filledBy(all...), key, "y")
		all = append(all, drop(key, "y", adds[1:]...))
		sets(t, filledBy(all...), slices.Concat(keys[:i], keys[i+1:])...)
		members(t, filledBy(all...), key)
		sets(t, filledBy(append(all, add(key, "", all[len(all)-1]))...), keys...)
	}
	sets(t, filledBy(drop("k", "x"), set("l", "x"), made(api.Insert, "m", "x"), made(api.Erase, "n", "x")))
	sets(t, filledBy(drop("k", "x"), add("k", "x"), lost(add("l", "x")), deep(add("m", "x"), 2)), "k")
}

// P12.1: Registers has the keys for which there is a Set, in ascending order, bytewise, each once, also those whose value is empty.
func TestRegisters(t *testing.T) {
	keys := []string{"\x00", "\x00\x00", "A", "a", "a\x00", "aa", "ab", "b", "é", "\xff", "\xff\x00", strings.Repeat("\xff", 16)}
	var list []api.Op
	for i := range keys {
		key := keys[(5*i+3)%len(keys)]
		one := set(key, "x", list[max(0, len(list)-1):]...)
		list = append(list, one, by(1, one), set(key, "", one))
	}
	registers(t, filledBy(list...), keys...)
	slices.Reverse(list)
	registers(t, filledBy(list...), keys...)
	sets(t, filledBy(list...))
	registers(t, filledBy(set("k", "")), "k")
	registers(t, filledBy(set("k", ""), lost(set("l", "x")), deep(set("m", "x"), 2), add("n", "x"), drop("o", "x")), "k")
}
