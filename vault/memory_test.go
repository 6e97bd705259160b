package vault_test

import (
	"slices"
	"strings"
	"testing"

	"tribunal/api"
)

// spoil changes all that a slice can reach.
func spoil[T any](list []T, bad T) {
	whole := list[:cap(list)]
	for i := range whole {
		whole[i] = bad
	}
}

// P17.1: Append leaves its arguments as they are, behind their end as well, and keeps nothing of them; what they become later is seen nowhere.
func TestMemoryOfAppend(t *testing.T) {
	k := keysOf(t, "seed", 5)
	for first := range 5 {
		p := pairOf(t, 200, 0, k)
		var spoilt [][]api.Entry
		for size := first; size < 6; size++ {
			given := append(good(), sends(3)...)
			if e := p.v.Append(given[:size]...); e != api.OK || p.m.append(good()[:size]...) != api.OK {
				t.Fatal(e)
			}
			if !slices.Equal(given, append(good(), sends(3)...)) {
				t.Errorf("%d: Append changes its arguments", size)
			}
			spoil(given, send("spoilt"))
			spoilt = append(spoilt, given)
			like(t, p.v, p.d, p.m)
			signs(t, p.v.Log(), 0, k, p.m.list, len(p.m.list))
		}
		for _, given := range spoilt {
			if slices.ContainsFunc(given, func(e api.Entry) bool { return e != send("spoilt") }) {
				t.Error("Append writes into earlier arguments")
			}
		}
		p.reopen(t)
	}
}

// P17.1: an Append that fails leaves its arguments as they are, and nothing of them is seen later.
func TestMemoryOfAppendThatFails(t *testing.T) {
	p := pairOf(t, 8, 0, keysOf(t, "seed", 3))
	p.appended(t, api.OK, send("a"), send("b"))
	ask := func(want api.Errno, list ...api.Entry) {
		given := slices.Clone(list)
		p.appended(t, want, given...)
		if !slices.Equal(given, list) {
			t.Errorf("%d: the arguments are changed", want)
		}
		spoil(given, send("spoilt"))
		like(t, p.v, p.d, p.m)
	}
	ask(api.ErrArg, send("x"), api.Entry{}, send("z"))
	ask(api.ErrSpent, sends(7)...)
	ask(api.ErrFull, good()[5:6]...)
	p.appended(t, api.OK, send("c"))
	p.off(none)
	ask(api.ErrDown, send("x"))
	p.on()
	p.reopen(t)
	holds(t, p.v, []api.Entry{send("a"), send("b"), send("c")}, nil)
}

// P17.1: what a caller does with the texts that Held returned is seen neither in the vault nor in other results; a result doesn't change with the vault.
func TestMemoryOfHeld(t *testing.T) {
	p := pairOf(t, 200, 0, keysOf(t, "seed", 1))
	var earlier [][]string
	for i, text := range texts() {
		p.held(t, api.OK, text)
		first, second := p.v.Held(), p.v.Held()
		_ = append(first, "behind")
		spoil(first, "spoilt")
		if !slices.Equal(second, texts()[:i+1]) {
			t.Errorf("%d: two results share memory", i)
		}
		like(t, p.v, p.d, p.m)
		earlier = append(earlier, second)
	}
	for i, list := range earlier {
		if !slices.Equal(list, texts()[:i+1]) {
			t.Errorf("%d: a result changes with the vault", i)
		}
	}
	p.reopen(t)
	spoil(p.v.Held(), "spoilt")
	p.held(t, api.OK, "more")
}

// P17.1: what a caller does with what the log returned is seen nowhere.
func TestMemoryOfLog(t *testing.T) {
	k := keysOf(t, "seed", 4)
	p := pairOf(t, 200, 0, k)
	p.appended(t, api.OK, good()...)
	part := p.v.Log().Part(2, 8)
	_ = append(part, send("behind"))
	spoil(part, send("spoilt"))
	a, _ := p.v.Log().Auth(9)
	a.Hash[0]++
	like(t, p.v, p.d, p.m)
	signs(t, p.v.Log(), 0, k, good(), 9)
	p.reopen(t)
}

// P17.1: what a caller does with the bytes of a text that is retained, and with those that a disk returned, is seen nowhere.
func TestMemoryOfBytes(t *testing.T) {
	p := pairOf(t, 20, 0, keysOf(t, "seed", 1))
	b := []byte(strings.Repeat("t", 300))
	p.held(t, api.OK, string(b))
	spoil(b, 0xee)
	for at := range 20 {
		b, _ := p.d.Read(at)
		spoil(b, 0xee)
	}
	like(t, p.v, p.d, p.m)
	holds(t, p.v, nil, []string{strings.Repeat("t", 300)})
}

// P17.1: vaults on disks of their own are independent, also with the same keys.
func TestVaultsApart(t *testing.T) {
	k := keysOf(t, "seed", 3)
	one, other := pairOf(t, 50, 0, k), pairOf(t, 50, 3, k)
	for i, e := range good()[:5] {
		one.appended(t, api.OK, e)
		if i%2 == 0 {
			other.appended(t, api.OK, send("other"))
			other.held(t, api.OK, "text")
		}
		like(t, one.v, one.d, one.m)
		signs(t, one.v.Log(), 0, k, good()[:i+1], i+1)
		signs(t, other.v.Log(), 3, k, other.m.list, i/2+1)
	}
	one.off(none)
	one.appended(t, api.ErrDown, send("x"))
	other.appended(t, api.OK, send("x"))
	holds(t, one.v, good()[:5], nil)
}

// P17.1: calls that only ask perform no act, and change nothing.
func TestAskingChangesNothing(t *testing.T) {
	k := keysOf(t, "seed", 4)
	p := pairOf(t, 200, 1, k)
	p.appended(t, api.OK, good()...)
	p.held(t, api.OK, "text")
	p.idle(t, func() {
		for seq := range 12 {
			p.v.Held()
			p.v.Log().Auth(seq)
			p.v.Log().At(seq)
			p.v.Log().Part(seq, 9)
			p.v.Log().Hash(seq)
			k.Sign(seq, "another text")
		}
	})
	p.off(all)
	p.idle(t, func() {
		signs(t, p.v.Log(), 1, k, good(), 1, 9, 10)
		holds(t, p.v, good(), []string{"text"})
	})
}
