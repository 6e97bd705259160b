package chain_test

import (
	"slices"
	"testing"

	"tribunal/api"
	"tribunal/chain"
	"tribunal/entry"
	"tribunal/keys"
)

// P16.1: drawn sequences of calls, each answer compared with the model.
func TestDrawnCalls(t *testing.T) {
	var chance row = 5
	counts := map[api.Errno]int{}
	for range 150 {
		node, height := chance.next(5), 1+chance.next(5)
		k := keysOf(t, chance.text(chance.next(5)), height)
		l, m := opened(t, node, k), &model{node: node, keys: k}
		for range 15 {
			list := chance.entries(chance.next(1 + chance.next(8)))
			if len(list) > 0 && chance.next(6) == 0 {
				list[chance.next(len(list))] = bad()[chance.next(len(bad()))]
			}
			got, want := l.Append(list...), m.append(list...)
			if got != want {
				t.Fatalf("%d and %d entries: %d, not %d", len(m.entries), len(list), got, want)
			}
			counts[got]++
			like(t, l, m, chance.next(len(m.entries)+4)-1, chance.next(len(m.entries)+4)-1)
		}
		for seq := -1; seq < len(m.entries)+2; seq++ {
			like(t, l, m, seq, len(m.entries)-seq)
		}
	}
	if counts[api.OK] < 300 || counts[api.ErrArg] < 100 || counts[api.ErrSpent] < 100 {
		t.Errorf("%v", counts)
	}
}

// P16.2: the authenticators of drawn logs pass Check for their node, and only for it; what is encoded comes back.
func TestAuthsOfDrawnLogs(t *testing.T) {
	var chance row = 6
	list, nodes := signers(t)
	for range 25 {
		node := chance.next(5)
		l, m := opened(t, node, list[node]), &model{node: node, keys: list[node]}
		for l.Left() > 0 && l.Len() < 12 {
			more := chance.entries(1 + chance.next(min(l.Left(), 4)))
			if l.Append(more...) != api.OK || m.append(more...) != api.OK {
				t.Fatal("Append")
			}
		}
		for seq := 1; seq <= l.Len(); seq++ {
			a, e := l.Auth(seq)
			if e != api.OK || a.Node != node || a.Seq != seq || a.Hash != m.hash(seq) || !chain.Check(a, nodes...) {
				t.Fatalf("%s, %d", told(a), e)
			}
			if got, e := chain.ReadAuth(chain.AuthText(a)); got != a || e != api.OK {
				t.Fatalf("%s: %s, %d", told(a), told(got), e)
			}
			for other := range nodes {
				moved := slices.Clone(nodes)
				moved[node] = nodes[other]
				b := a
				b.Node = other
				if other != node && (chain.Check(a, moved...) || chain.Check(b, nodes...)) {
					t.Fatalf("%s passes for %d", told(a), other)
				}
			}
		}
	}
}

// P16.2: the last key signs the last position: all authenticators of a log without keys left pass, for all heights.
func TestAuthsOfAllKeys(t *testing.T) {
	for height := 1; height <= 6; height++ {
		k := keysOf(t, "seed", height)
		var chance row = 7
		l, _ := filledLog(t, 4, k, chance.entries(1<<height)...)
		nodes := []api.Node{{}, {}, {}, {}, k.Node()}
		for seq := 1; seq <= 1<<height; seq++ {
			a, e := l.Auth(seq)
			if e != api.OK || !chain.Check(a, nodes...) || !keys.Verify(k.Node(), seq-1, worded(4, seq, a.Hash), a.Sig) {
				t.Fatalf("height %d, %d: %d", height, seq, e)
			}
		}
	}
}

// P16.2: the same position has the same authenticator, whenever it is asked, and whatever is appended meanwhile.
func TestSameAuth(t *testing.T) {
	var chance row = 8
	k := keysOf(t, "seed", 4)
	for range 6 {
		l := opened(t, 2, k)
		var first []api.Auth
		for l.Left() > 0 {
			l.Append(chance.entries(1 + chance.next(min(l.Left(), 3)))...)
			l.Append(api.Entry{})
			l.Append(chance.entries(l.Left() + 1)...)
			for seq := len(first) + 1; seq <= l.Len(); seq++ {
				a, e := l.Auth(seq)
				if e != api.OK {
					t.Fatal(e)
				}
				first = append(first, a)
			}
			for i, want := range first {
				if got, e := l.Auth(i + 1); got != want || e != api.OK {
					t.Fatalf("%d: %s, %d, not %s", i+1, told(got), e, told(want))
				}
			}
		}
		again := opened(t, 2, keysOf(t, "seed", 4))
		again.Append(l.Part(1, l.Len())...)
		for i, want := range first {
			if got, e := again.Auth(i + 1); got != want || e != api.OK {
				t.Fatalf("%d of the same log: %s, %d, not %s", i+1, told(got), e, told(want))
			}
		}
	}
}

// P16.2: logs that differ in one entry have the same hashes ahead of it, and others from it on.
func TestLogsThatDiffer(t *testing.T) {
	var chance row = 9
	k := keysOf(t, "seed", 4)
	for range 200 {
		list := chance.entries(1 + chance.next(16))
		other := slices.Clone(list)
		at := chance.next(len(list))
		for other[at] == list[at] {
			other[at] = chance.entry()
		}
		one, _ := filledLog(t, 0, k, list...)
		two, _ := filledLog(t, chance.next(5), k, other...)
		for seq := range len(list) + 1 {
			a, first := one.Hash(seq)
			b, second := two.Hash(seq)
			if first != api.OK || second != api.OK || (a == b) != (seq <= at) {
				t.Fatalf("%d entries, %d differs: at %d %v", len(list), at+1, seq, a == b)
			}
		}
	}
}

// P16.2: a log with one entry less, one more, or two exchanged has other hashes from there on, whatever the position.
func TestLogsThatShift(t *testing.T) {
	var chance row = 10
	k := keysOf(t, "seed", 4)
	seen := map[api.Id]string{}
	list := chance.entries(14)
	for i := range list {
		other := slices.Clone(list)
		other[i] = send("distinct")
		for _, entries := range [][]api.Entry{list, slices.Delete(slices.Clone(list), i, i+1), slices.Insert(slices.Clone(list), i, list[i]), other} {
			l, _ := filledLog(t, 0, k, entries...)
			for seq := 1; seq <= l.Len(); seq++ {
				h, _ := l.Hash(seq)
				// The text of a whole log up to a position names that log: the same hash may have no other one.
				text := entry.Texts(entries[:seq]...)
				if was, there := seen[h]; there && was != text {
					t.Fatalf("%d: two logs with the same hash", seq)
				}
				seen[h] = text
			}
		}
	}
}
