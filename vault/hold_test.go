package vault_test

import (
	"slices"
	"strings"
	"testing"

	"tribunal/api"
)

// P17.1: Hold of texts of all kinds, the same ones again: each time one more behind the others, on the disk as a batch of its own; the log remains.
func TestHold(t *testing.T) {
	k := keysOf(t, "seed", 3)
	p := pairOf(t, 200, 0, k)
	p.appended(t, api.OK, sends(2)...)
	var want []string
	for _, text := range slices.Concat(texts(), texts()) {
		p.held(t, api.OK, text)
		want = append(want, text)
		holds(t, p.v, sends(2), want)
		p.lies(t, slices.Concat(logged(sends(2)...), retained(want...))...)
	}
	p.reopen(t)
	holds(t, p.v, sends(2), want)
	signs(t, p.v.Log(), 0, k, sends(2), 1, 2, 3)
}

// P17.1: an empty text is retained, each time again.
func TestHoldEmpty(t *testing.T) {
	p := pairOf(t, 4, 0, keysOf(t, "seed", 1))
	for i := range 5 {
		p.held(t, api.OK, "")
		if got := p.v.Held(); len(got) != i+1 || got[i] != "" {
			t.Fatalf("%q", got)
		}
		p.lies(t, slices.Repeat([]string{"P"}, i+1)...)
	}
}

// P17.1: Hold of a text whose record is too long is ErrLong, without any act; of the longest one that can be, it is retained.
func TestHoldLong(t *testing.T) {
	k := keysOf(t, "seed", 1)
	p := pairOf(t, 5000, 0, k)
	p.held(t, api.OK, "one")
	for _, more := range []int{1, 2, 1000, 100000} {
		p.idle(t, func() { p.held(t, api.ErrLong, strings.Repeat("t", longest+more)) })
	}
	p.held(t, api.OK, strings.Repeat("t", longest-1))
	p.held(t, api.OK, strings.Repeat("\x00", longest))
	p.lies(t, "Pone", "P"+strings.Repeat("t", longest-1), "P"+strings.Repeat("\x00", longest))
	// It is too long before there is no room for it, and before there is no power.
	p = pairOf(t, 3, 0, k)
	p.idle(t, func() { p.held(t, api.ErrLong, strings.Repeat("t", longest+1)) })
	p.idle(t, func() { p.held(t, api.ErrFull, strings.Repeat("t", longest)) })
	p.off(none)
	p.idle(t, func() { p.held(t, api.ErrLong, strings.Repeat("t", longest+1)) })
	p.idle(t, func() { p.held(t, api.ErrFull, strings.Repeat("t", longest)) })
	p.idle(t, func() { p.held(t, api.ErrDown, "t") })
	p.on()
	p.idle(t, func() { p.held(t, api.ErrLong, strings.Repeat("t", longest+1)) })
}

// P17.1: Hold of more bytes than there is room for is ErrFull, without any act; what fits exactly is retained.
func TestHoldFull(t *testing.T) {
	k := keysOf(t, "seed", 1)
	for size := range 300 {
		p := pairOf(t, 4, 0, k)
		p.held(t, api.OK, "one") // six bytes
		text := strings.Repeat("t", size)
		needed := 6 + 2 + 1 + size
		if size > 254 {
			needed++
		}
		if needed > 256 {
			p.idle(t, func() { p.held(t, api.ErrFull, text) })
			p.held(t, api.OK, "")
			p.lies(t, "Pone", "P")
			continue
		}
		p.held(t, api.OK, text)
		p.lies(t, "Pone", "P"+text)
	}
}

// P17.1: without power Hold is ErrDown, and remains so when the power is on again; the texts are as they were, and so they are when the vault is opened again.
func TestHoldDown(t *testing.T) {
	k := keysOf(t, "seed", 2)
	for _, text := range []string{"", "text", strings.Repeat("t", 1000)} {
		p := pairOf(t, 60, 0, k)
		p.held(t, api.OK, "one")
		p.appended(t, api.OK, send("p"))
		p.off(all)
		p.idle(t, func() { p.held(t, api.ErrDown, text) })
		p.idle(t, func() { p.held(t, api.ErrDown, text) })
		p.on()
		p.idle(t, func() { p.held(t, api.ErrDown, text) })
		p.idle(t, func() { p.appended(t, api.ErrDown, send("p")) })
		p.lies(t, slices.Concat(retained("one"), logged(send("p")))...)
		p.reopen(t)
		p.held(t, api.OK, text)
		p.lies(t, slices.Concat(retained("one"), logged(send("p")), retained(text))...)
	}
}

// P17.1: the power fails in an act of Hold: ErrDown, from then on; neither the log nor the texts are changed, whatever the disk keeps.
func TestHoldFails(t *testing.T) {
	k := keysOf(t, "seed", 2)
	for _, keep := range []uint64{none, all, 1, 2} {
		for n := 1; n <= 6; n++ {
			p := pairOf(t, 60, 0, k)
			p.appended(t, api.OK, send("p"))
			p.held(t, api.OK, "one")
			p.arm(n, keep)
			p.held(t, api.ErrDown, strings.Repeat("t", 300))
			holds(t, p.v, p.m.list, []string{"one"})
			p.idle(t, func() { p.held(t, api.ErrDown, "two") })
			p.on()
			p.idle(t, func() { p.held(t, api.ErrDown, "two") })
			p.idle(t, func() { p.appended(t, api.ErrDown, send("p")) })
			p.reopen(t)
			p.held(t, api.OK, "two")
		}
	}
}

// P17.1: a log without keys left doesn't hinder a text.
func TestHoldWithoutKeys(t *testing.T) {
	p := pairOf(t, 60, 0, keysOf(t, "seed", 1))
	p.appended(t, api.OK, sends(2)...)
	p.idle(t, func() { p.appended(t, api.ErrSpent, send("p")) })
	for _, text := range texts()[:9] {
		p.held(t, api.OK, text)
	}
	p.reopen(t)
	holds(t, p.v, sends(2), texts()[:9])
}
