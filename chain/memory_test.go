package chain_test

import (
	"slices"
	"testing"

	"tribunal/api"
	"tribunal/chain"
)

// spoil changes all that a slice can reach.
func spoil[T any](all []T, bad T) {
	whole := all[:cap(all)]
	for i := range whole {
		whole[i] = bad
	}
}

// P16.1: what a caller does with a result of Walk changes nothing of what is returned, earlier or later, nor does Walk change its arguments.
func TestMemoryOfWalk(t *testing.T) {
	held := good()
	given := slices.Clone(held)
	want := walked(filled(1), 3, held[:5]...)
	first := chain.Walk(filled(1), 3, given[:5]...)
	second := chain.Walk(filled(1), 3, given[:5]...)
	if !slices.Equal(given, held) {
		t.Error("Walk changes its arguments")
	}
	clear(given)
	spoil(first, filled(0xee))
	if !slices.Equal(second, want) || !slices.Equal(chain.Walk(filled(1), 3, held[:5]...), want) {
		t.Error("results share memory")
	}
}

// P16.1: Check leaves the nodes that it is given as they are.
func TestMemoryOfCheck(t *testing.T) {
	list, nodes := signers(t)
	given := slices.Clone(nodes)
	a := authOf(t, list[1], 1, 2, filled(3))
	if !chain.Check(a, given[:2]...) || !slices.Equal(given, nodes) {
		t.Error("Check changes its arguments")
	}
	clear(given)
	if !chain.Check(a, nodes...) || chain.Check(a, given...) {
		t.Error("Check keeps its arguments")
	}
}

// P16.1: Append leaves its arguments as they are, behind their end as well, and keeps nothing of them, whatever the log had.
func TestMemoryOfAppend(t *testing.T) {
	k := keysOf(t, "seed", 4)
	spoilt := slices.Repeat([]api.Entry{send("spoilt")}, len(good()))
	for first := range 5 {
		l, m := opened(t, 0, k), &model{keys: k}
		var all [][]api.Entry
		for size := first; size < 5; size++ {
			held := good()
			given := slices.Clone(held)
			if e := l.Append(given[:size]...); e != api.OK || m.append(held[:size]...) != api.OK {
				t.Fatal(e)
			}
			if !slices.Equal(given, held) {
				t.Errorf("%d: Append changes its arguments", size)
			}
			copy(given, spoilt)
			all = append(all, given)
			for seq := range l.Len() + 1 {
				like(t, l, m, seq, l.Len())
			}
		}
		for _, given := range all {
			if !slices.Equal(given, spoilt) {
				t.Error("Append writes into earlier arguments")
			}
		}
	}
}

// P16.1: an Append that fails leaves its arguments as they are, and nothing of them is seen by a later one.
func TestMemoryOfAppendThatFails(t *testing.T) {
	k := keysOf(t, "seed", 2)
	l, m := filledLog(t, 0, k, send("a"), send("b"))
	for _, list := range [][]api.Entry{{send("x"), send("y"), send("z")}, {send("x"), {}}} {
		given := slices.Clone(list)
		if l.Append(given...) == api.OK || !slices.Equal(given, list) {
			t.Error("the arguments are changed")
		}
	}
	if e := l.Append(send("c")); e != api.OK || m.append(send("c")) != api.OK {
		t.Fatal(e)
	}
	for seq := range 5 {
		like(t, l, m, seq, 3)
	}
}

// P16.1: what a caller does with the entries that Part returned is seen neither in the log nor in other results.
func TestMemoryOfPart(t *testing.T) {
	l, m := filledLog(t, 0, keysOf(t, "seed", 4), good()...)
	for _, ends := range [][]int{{1, 9}, {1, 1}, {3, 5}, {9, 9}} {
		from, to := ends[0], ends[1]
		first, second := l.Part(from, to), l.Part(from, to)
		_ = append(first, send("behind"))
		spoil(first, send("spoilt"))
		if !slices.Equal(second, good()[from-1:to]) {
			t.Errorf("%d, %d: two results share memory", from, to)
		}
		for seq := range 11 {
			like(t, l, m, seq, 9)
		}
	}
	part := l.Part(2, 4)
	if e := l.Append(send("more"), send("and more")); e != api.OK || !slices.Equal(part, good()[1:4]) {
		t.Errorf("%d: a result changes with the log", e)
	}
}

// P16.1: entries, hashes and authenticators that were returned are the caller's.
func TestMemoryOfTheRest(t *testing.T) {
	l, m := filledLog(t, 0, keysOf(t, "seed", 4), good()...)
	for seq := range 10 {
		e, _ := l.At(seq)
		h, _ := l.Hash(seq)
		a, _ := l.Auth(seq)
		e.Prev[0]++
		e.Draft.Ref[0]++
		e.Mask++
		h[0]++
		a.Hash[0]++
		a.Seq++
		if e.Mask == 0 || a.Seq == 0 {
			t.Fatal("nothing is changed")
		}
		like(t, l, m, seq, 9)
	}
}

// P16.1: two logs are independent, also of the same keys: neither sees what the other one is given.
func TestLogsApart(t *testing.T) {
	k := keysOf(t, "seed", 2)
	one, first := opened(t, 0, k), &model{keys: k}
	other, second := opened(t, 3, k), &model{node: 3, keys: k}
	for i, e := range good()[:4] {
		for _, c := range []struct {
			l *chain.Log
			m *model
		}{{one, first}, {other, second}} {
			if i == 2 && c.m == first {
				continue
			}
			if c.l.Append(e) != api.OK || c.m.append(e) != api.OK {
				t.Fatal(i)
			}
			for seq := range 6 {
				like(t, one, first, seq, 3)
				like(t, other, second, seq, 3)
			}
		}
	}
}

// P16.1: calls that only ask change nothing, whatever they are asked, and whatever else the keys sign.
func TestAskingChangesNothing(t *testing.T) {
	k := keysOf(t, "seed", 3)
	l, m := filledLog(t, 0, k, good()[:5]...)
	for range 2 {
		for _, seq := range []int{bottom, -1, 0, 1, 5, 6, top} {
			l.At(seq)
			l.Hash(seq)
			l.Auth(seq)
			l.Part(seq, 5)
			l.Part(1, seq)
			k.Sign(seq, "another text")
		}
		l.Append()
		for seq := range 7 {
			like(t, l, m, seq, 5)
		}
	}
}
