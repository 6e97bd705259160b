package chain_test

import (
	"slices"
	"testing"

	"tribunal/api"
	"tribunal/chain"
	"tribunal/entry"
)

// P16.1: New returns an empty log for each node that there can be, ErrArg for others, and ErrNil for nil keys, whatever the node.
func TestNew(t *testing.T) {
	k := keysOf(t, "seed", 1)
	for _, node := range []int{bottom, -5, -1, 0, 1, 2, 3, 4, 5, 6, 256, 1 << 32, top} {
		want := api.OK
		if node < 0 || node > 4 {
			want = api.ErrArg
		}
		l, e := chain.New(node, k)
		if e != want || (l != nil) != (want == api.OK) {
			t.Errorf("%d: %v, %d", node, l != nil, e)
		}
		if l, e := chain.New(node, nil); l != nil || e != api.ErrNil {
			t.Errorf("%d, nil keys: %v, %d", node, l != nil, e)
		}
		if want == api.OK {
			like(t, l, &model{node: node, keys: k}, 0, 0)
			like(t, l, &model{node: node, keys: k}, 1, 1)
		}
	}
}

// P16.1: the methods of a nil log return ErrNil, 0, and nothing.
func TestNilLog(t *testing.T) {
	var l *chain.Log
	if l.Len() != 0 || l.Left() != 0 {
		t.Errorf("%d, %d", l.Len(), l.Left())
	}
	for _, list := range [][]api.Entry{nil, {send("p")}, {{}}, make([]api.Entry, 300)} {
		if e := l.Append(list...); e != api.ErrNil {
			t.Errorf("%d entries: %d", len(list), e)
		}
	}
	for _, seq := range []int{bottom, -1, 0, 1, 2, top} {
		if got, e := l.At(seq); got != (api.Entry{}) || e != api.ErrNil {
			t.Errorf("At %d: %s, %d", seq, told(got), e)
		}
		if got, e := l.Hash(seq); got != (api.Id{}) || e != api.ErrNil {
			t.Errorf("Hash %d: %x, %d", seq, got, e)
		}
		if got, e := l.Auth(seq); got != (api.Auth{}) || e != api.ErrNil {
			t.Errorf("Auth %d: %s, %d", seq, told(got), e)
		}
		for _, to := range []int{bottom, -1, 0, 1, top} {
			if got := l.Part(seq, to); len(got) != 0 {
				t.Errorf("Part %d, %d: %d entries", seq, to, len(got))
			}
		}
	}
}

// P16.1: Len and Left, from the first entry to the last key, for keys of all heights.
func TestLenAndLeft(t *testing.T) {
	for height := 1; height <= 8; height++ {
		k := keysOf(t, "seed", height)
		l, m := opened(t, 0, k), &model{keys: k}
		for i := range 1 << height {
			if l.Len() != i || l.Left() != 1<<height-i {
				t.Fatalf("height %d: %d, %d, not %d", height, l.Len(), l.Left(), i)
			}
			if e := l.Append(send("p")); e != api.OK {
				t.Fatalf("height %d, entry %d: %d", height, i, e)
			}
			m.append(send("p"))
		}
		if e := l.Append(send("p")); e != api.ErrSpent {
			t.Errorf("height %d: %d", height, e)
		}
		like(t, l, m, 1<<height, 1<<height)
		like(t, l, m, 1<<height+1, 1<<height+1)
	}
}

// P16.1: Append of none, one, and several entries, of all kinds, beside what the model tells of each position.
func TestAppend(t *testing.T) {
	k := keysOf(t, "seed", 4)
	l, m := opened(t, 3, k), &model{node: 3, keys: k}
	for _, list := range [][]api.Entry{nil, {send("first")}, {}, good(), {send("p"), send("p")}, nil} {
		if got, want := l.Append(list...), m.append(list...); got != want || got != api.OK {
			t.Errorf("%d entries: %d, not %d", len(list), got, want)
		}
		for seq := range len(m.entries) + 2 {
			like(t, l, m, seq, len(m.entries))
		}
	}
}

// P16.1: Append with an entry that is not valid, at whatever place, is ErrArg, and nothing is appended.
func TestAppendBad(t *testing.T) {
	l, m := filledLog(t, 1, keysOf(t, "seed", 3), send("a"), send("b"))
	for _, wrong := range bad() {
		for _, list := range [][]api.Entry{
			{wrong}, {wrong, send("c")}, {send("c"), wrong}, {send("c"), wrong, send("d")}, {wrong, wrong},
			append(slices.Repeat([]api.Entry{send("c")}, 5), wrong),
		} {
			if e := l.Append(list...); e != api.ErrArg {
				t.Errorf("%s: %d", told(wrong), e)
			}
			like(t, l, m, 2, 2)
			like(t, l, m, 3, 3)
		}
	}
	for seq := range 9 {
		like(t, l, m, seq, seq)
	}
}

// P16.1: Append of more than are left is ErrSpent, and nothing is appended; of just as many it is OK; with both faults it is ErrArg.
func TestAppendSpent(t *testing.T) {
	k := keysOf(t, "seed", 2)
	for held := range 5 {
		for more := range 8 {
			l, m := filledLog(t, 2, k, slices.Repeat([]api.Entry{send("a")}, held)...)
			list := slices.Repeat([]api.Entry{send("b")}, more)
			want := api.OK
			if held+more > 4 {
				want = api.ErrSpent
			}
			if e := l.Append(list...); e != want || m.append(list...) != want {
				t.Errorf("%d held, %d more: %d", held, more, e)
			}
			if e := l.Append(append(slices.Repeat([]api.Entry{send("c")}, 5), api.Entry{})...); e != api.ErrArg {
				t.Errorf("%d held, both faults: %d", held, e)
			}
			if e := l.Append(); e != api.OK {
				t.Errorf("%d held, none: %d", held, e)
			}
			for seq := range 7 {
				like(t, l, m, seq, seq)
			}
		}
	}
}

// P16.1: At, Hash and Auth at negative positions, at 0, at each position that there is, and behind these.
func TestPositions(t *testing.T) {
	k := keysOf(t, "seed", 4)
	for _, count := range []int{0, 1, 2, 9, 16} {
		list := slices.Repeat(good(), 2)[:count]
		l, m := filledLog(t, 4, k, list...)
		for _, seq := range []int{bottom, bottom + 1, -1 << 32, -count, -2, -1, count + 1, count + 2, 2 * count, 17, 256, 1 << 32, 1<<32 + 1, top - 1, top} {
			like(t, l, m, seq, seq)
		}
		for seq := range count + 2 {
			like(t, l, m, seq, seq)
		}
		if h, e := l.Hash(0); h != (api.Id{}) || e != api.OK {
			t.Errorf("Hash 0: %x, %d", h, e)
		}
	}
}

// P16.1: Auth(1) of an empty log: ErrNone.
func TestAuthOfEmptyLog(t *testing.T) {
	l := opened(t, 0, keysOf(t, "seed", 1))
	if a, e := l.Auth(1); a != (api.Auth{}) || e != api.ErrNone {
		t.Errorf("%s, %d", told(a), e)
	}
}

// P16.1: Part with each pair of positions in and around a log.
func TestPart(t *testing.T) {
	k := keysOf(t, "seed", 3)
	for _, count := range []int{0, 1, 2, 7, 8} {
		list := good()[:count]
		l := opened(t, 0, k)
		if e := l.Append(list...); e != api.OK {
			t.Fatal(e)
		}
		ends := []int{bottom, -1 << 32, -2, -1, 0, 1, 2, 3, 4, 5, 6, 7, 8, 9, 10, 17, 1 << 32, 1<<32 + 1, top - 1, top}
		for _, from := range ends {
			for _, to := range ends {
				var want []api.Entry
				if 1 <= from && from <= to && to <= count {
					want = list[from-1 : to]
				}
				if got := l.Part(from, to); !slices.Equal(got, want) {
					t.Errorf("%d entries: %d, %d: %d, not %d", count, from, to, len(got), len(want))
				}
			}
		}
	}
}

// P16.1: the hash of a log is that of Walk from zeros and 1, and Walk goes on from each hash.
func TestHashIsWalk(t *testing.T) {
	l, _ := filledLog(t, 0, keysOf(t, "seed", 4), good()...)
	all := chain.Walk(api.Id{}, 1, good()...)
	for seq := range len(all) {
		before, _ := l.Hash(seq)
		rest := chain.Walk(before, seq+1, l.Part(seq+1, l.Len())...)
		if got, _ := l.Hash(seq + 1); got != all[seq] || !slices.Equal(rest, all[seq:]) {
			t.Errorf("%d: %x, not %x", seq, got, all[seq])
		}
	}
}

// P16.1: a log takes no two entries for one, also if they encode nearly alike.
func TestEntriesApart(t *testing.T) {
	k := keysOf(t, "seed", 1)
	seen := map[api.Id]string{}
	for _, e := range good() {
		l, _ := filledLog(t, 0, k, e)
		h, _ := l.Hash(1)
		if other, there := seen[h]; there {
			t.Errorf("%s has the hash of %s", told(e), other)
		}
		seen[h] = entry.Text(e)
	}
}
