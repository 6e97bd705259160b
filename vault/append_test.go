package vault_test

import (
	"slices"
	"strings"
	"testing"

	"tribunal/api"
	"tribunal/chain"
	"tribunal/seg"
)

// P17.1: Append of none, of one, and of several entries: they are in the log, and, as one batch, on the disk; nothing else is done there.
func TestAppend(t *testing.T) {
	k := keysOf(t, "seed", 6)
	for node := range 5 {
		p := pairOf(t, 200, node, k)
		var want []api.Entry
		for _, list := range [][]api.Entry{nil, good()[:1], {}, good()[1:4], good(), nil, good()[5:6], slices.Repeat(good()[6:7], 20)} {
			p.appended(t, api.OK, list...)
			want = append(want, list...)
			p.lies(t, logged(want...)...)
			holds(t, p.v, want, nil)
			signs(t, p.v.Log(), node, k, want, len(want), len(want)+1)
		}
	}
}

// P17.1: the bytes of an entry on the disk, here written out.
func TestAppendWrittenOut(t *testing.T) {
	p := pairOf(t, 6, 0, keysOf(t, "seed", 2))
	p.appended(t, api.OK, api.Entry{Kind: 3, Mask: 5, Payload: "hi"})
	p.held(t, api.OK, "you")
	want := "\x01\x0fL\x01\x03\x01\x02\x01\x03\x01\x02\x01\x05\x01\x02hi" + "\x01\x04Pyou"
	if got := sectorsOf(t, p.d)[2]; got != want+strings.Repeat("\x00", 128-len(want)) {
		t.Errorf("%q, not %q", got, want)
	}
}

// P17.1: a vault goes on with what is there when it is opened again, behind its entries and texts.
func TestAppendBehind(t *testing.T) {
	k := keysOf(t, "seed", 5)
	p := pairOf(t, 200, 3, k)
	for i, e := range good() {
		p.appended(t, api.OK, e, send("x"))
		p.held(t, api.OK, strings.Repeat("t", i))
		p.reopen(t)
		signs(t, p.v.Log(), 3, k, p.m.list, 1, 2*i+2)
	}
	holds(t, p.v, p.m.list, []string{"", "t", "tt", "ttt", "tttt", "ttttt", "tttttt", "ttttttt", "tttttttt"})
}

// P17.1: Append with an entry that is not valid, wherever it is, is ErrArg, without any act, and changes nothing.
func TestAppendNotValid(t *testing.T) {
	k := keysOf(t, "seed", 3)
	for _, start := range [][]api.Entry{nil, sends(2)} {
		p := pairOf(t, 100, 0, k)
		p.appended(t, api.OK, start...)
		p.held(t, api.OK, "text")
		for _, wrong := range bad() {
			for size := range 5 {
				for at := range size {
					list := sends(size)
					list[at] = wrong
					p.idle(t, func() { p.appended(t, api.ErrArg, list...) })
				}
			}
		}
		p.appended(t, api.OK, good()[:3]...)
		p.lies(t, slices.Concat(logged(start...), retained("text"), logged(good()[:3]...))...)
	}
}

// P17.1: Append of more entries than the log has space for is ErrSpent, without any act, and changes nothing; what fits is appended.
func TestAppendMoreThanKeys(t *testing.T) {
	for height := 1; height <= 4; height++ {
		k := keysOf(t, "seed", height)
		count := 1 << height
		for used := range count + 1 {
			p := pairOf(t, 100, 0, k)
			p.appended(t, api.OK, sends(used)...)
			for _, more := range []int{1, 2, 300} {
				p.idle(t, func() { p.appended(t, api.ErrSpent, sends(count-used+more)...) })
			}
			p.appended(t, api.OK, sends(count-used)...)
			p.idle(t, func() { p.appended(t, api.ErrSpent, send("more")) })
			// No entry needs no key, and a text needs none.
			p.appended(t, api.OK)
			p.held(t, api.OK, "text")
			p.lies(t, append(logged(slices.Concat(sends(used), sends(count-used))...), "Ptext")...)
			signs(t, p.v.Log(), 0, k, p.m.list, 1, count, count+1)
		}
	}
}

// P17.1: what the chapter gives as its example: three entries, with space for two.
func TestAppendExample(t *testing.T) {
	p := pairOf(t, 40, 0, keysOf(t, "seed", 1))
	if e := p.v.Append(sends(3)...); e != api.ErrSpent || p.d.Acts() != 0 || p.v.Log().Len() != 0 {
		t.Errorf("%d, %d acts", e, p.d.Acts())
	}
}

// P17.1: of several faults the first one counts: an entry that is not valid, too many, no room, no power; without any act.
func TestAppendSeveralFaults(t *testing.T) {
	k := keysOf(t, "seed", 2)
	long := slices.Repeat(good()[8:9], 4)
	wrong := slices.Concat(sends(2), bad()[8:9])
	for _, sectors := range []int{3, 100} {
		p := pairOf(t, sectors, 0, k)
		p.appended(t, api.OK, send("one"))
		ask := func() {
			p.appended(t, api.ErrArg, bad()[8])
			p.appended(t, api.ErrArg, append(slices.Clone(long), bad()...)...)
			p.appended(t, api.ErrArg, slices.Repeat(wrong, 3)...)
			p.appended(t, api.ErrSpent, long...)
			p.appended(t, api.ErrSpent, sends(300)...)
		}
		p.idle(t, ask)
		p.off(all)
		p.idle(t, ask)
		if sectors == 3 {
			p.idle(t, func() { p.appended(t, api.ErrFull, long[:3]...) })
			p.idle(t, func() { p.held(t, api.ErrFull, strings.Repeat("t", 128)) })
		}
		p.idle(t, func() { p.appended(t, api.ErrDown, send("two")) })
		p.on()
		p.idle(t, ask)
		// The disk has returned an error: that comes before the room.
		p.idle(t, func() { p.appended(t, api.ErrDown, long[:3]...) })
		p.idle(t, func() { p.held(t, api.ErrLong, strings.Repeat("t", longest+1)) })
		p.idle(t, func() { p.held(t, api.ErrDown, strings.Repeat("t", longest)) })
		p.reopen(t)
		p.appended(t, api.OK, send("two"))
	}
}

// P17.1: Append of more bytes than there is room for is ErrFull, without any act; what fits exactly is appended, also as several.
func TestAppendFull(t *testing.T) {
	k := keysOf(t, "seed", 3)
	s, _, _ := seg.Open(diskOf(t, 9, logged(send(""), send(strings.Repeat("p", 300)))))
	needed := s.Len()
	for sectors := 2; sectors <= 9; sectors++ {
		p := pairOf(t, sectors, 0, k)
		list := []api.Entry{send(""), send(strings.Repeat("p", 300))}
		if room := 128 * (sectors - 2); needed > room {
			p.idle(t, func() { p.appended(t, api.ErrFull, list...) })
			// None of them, also if the first one fits.
			p.lies(t)
			continue
		}
		p.appended(t, api.OK, list...)
		p.lies(t, logged(list...)...)
	}
	// Two bytes ahead of a record tell its size.
	for size := 80; size < 127; size++ {
		p := pairOf(t, 3, 0, k)
		e := send(strings.Repeat("p", size))
		if records := logged(e); len(records[0])+2 > 128 {
			p.idle(t, func() { p.appended(t, api.ErrFull, e) })
			p.appended(t, api.OK, send("p"))
			continue
		}
		p.appended(t, api.OK, e)
		p.lies(t, logged(e)...)
	}
}

// P17.1: without room only a batch of no entry is stored; with some left, a smaller entry is, and the vault is as before otherwise.
func TestAppendUpToTheEnd(t *testing.T) {
	k := keysOf(t, "seed", 6)
	p := pairOf(t, 6, 1, k)
	for p.append(t, send("payload")) == api.OK {
	}
	if len(p.m.list) < 20 {
		t.Fatalf("%d entries", len(p.m.list))
	}
	for p.hold(t, "") == api.OK {
	}
	for range 2 {
		p.idle(t, func() { p.appended(t, api.ErrFull, send("payload")) })
		p.idle(t, func() { p.appended(t, api.ErrFull, send("")) })
		p.idle(t, func() { p.held(t, api.ErrFull, "") })
		p.appended(t, api.OK)
		p.reopen(t)
	}
	// A new disk of two sectors has space for no record.
	p = pairOf(t, 2, 1, k)
	p.idle(t, func() { p.appended(t, api.ErrFull, send("")) })
	p.appended(t, api.OK)
	p.lies(t)
}

// P17.1: without power Append is ErrDown, and remains so when the power is on again; the log is as it was, and so it is when it is opened again.
func TestAppendDown(t *testing.T) {
	k := keysOf(t, "seed", 4)
	for _, list := range [][]api.Entry{nil, good()[:1], good()} {
		p := pairOf(t, 200, 2, k)
		p.appended(t, api.OK, sends(2)...)
		p.held(t, api.OK, "text")
		p.off(none)
		for range 2 {
			p.idle(t, func() { p.appended(t, api.ErrDown, list...) })
			signs(t, p.v.Log(), 2, k, sends(2), 1, 2, 3)
		}
		p.on()
		p.idle(t, func() { p.appended(t, api.ErrDown, list...) })
		p.idle(t, func() { p.held(t, api.ErrDown, "more") })
		p.lies(t, slices.Concat(logged(sends(2)...), retained("text"))...)
		p.reopen(t)
		p.appended(t, api.OK, list...)
		p.lies(t, slices.Concat(logged(sends(2)...), retained("text"), logged(list...))...)
	}
}

// P17.1: a failure between two calls is no error of the disk: the vault goes on when the power is on again.
func TestAppendAfterPower(t *testing.T) {
	p := pairOf(t, 200, 0, keysOf(t, "seed", 5))
	for i, e := range good() {
		p.off([]uint64{none, all, 5}[i%3])
		p.on()
		p.appended(t, api.OK, e)
		p.held(t, api.OK, "t")
		p.idle(t, func() { p.appended(t, api.ErrArg, bad()[i]) })
	}
	p.reopen(t)
	holds(t, p.v, good(), slices.Repeat([]string{"t"}, 9))
}

// P17.1: the power fails in an act of Append: ErrDown, from then on; neither the log nor the texts are changed, whatever the disk keeps.
func TestAppendFails(t *testing.T) {
	k := keysOf(t, "seed", 4)
	for _, keep := range []uint64{none, all, 1, 2} {
		// Five sectors, a sync, the slot, a sync.
		for n := 1; n <= 8; n++ {
			p := pairOf(t, 200, 0, k)
			p.appended(t, api.OK, sends(3)...)
			p.held(t, api.OK, "text")
			p.arm(n, keep)
			list := []api.Entry{send(strings.Repeat("a", 200)), send(strings.Repeat("b", 200)), good()[0]}
			p.appended(t, api.ErrDown, list...)
			signs(t, p.v.Log(), 0, k, sends(3), 0, 3, 4)
			p.idle(t, func() { p.appended(t, api.ErrDown, send("x")) })
			p.on()
			p.idle(t, func() { p.appended(t, api.ErrDown, send("x")) })
			p.idle(t, func() { p.held(t, api.ErrDown, "x") })
			p.reopen(t)
			p.appended(t, api.OK, send("x"))
		}
	}
}

// P17.1: Log is the log itself, the same one whenever it is asked, which has what was appended meanwhile.
func TestLog(t *testing.T) {
	k := keysOf(t, "seed", 3)
	p := pairOf(t, 100, 4, k)
	var l *chain.Log = p.v.Log()
	for i := range 8 {
		p.appended(t, api.OK, send("p"))
		p.held(t, api.OK, "t")
		p.appended(t, api.ErrArg, api.Entry{})
		if p.v.Log() != l || l.Len() != i+1 {
			t.Fatalf("%d: %v, %d entries", i, p.v.Log() == l, l.Len())
		}
		signs(t, l, 4, k, p.m.list, i+1)
	}
	p.reopen(t)
	if p.v.Log() == l {
		t.Error("two vaults have one log")
	}
}
