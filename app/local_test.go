package app_test

import (
	"strconv"
	"testing"

	"tribunal/api"
	"tribunal/app"
	"tribunal/op"
)

// P14.1: New returns a machine without operations for each of 2 to 5 nodes.
func TestNew(t *testing.T) {
	all(func(me, nodes int) {
		like(t, machine(t, me, nodes), &model{me: me, nodes: nodes})
	})
}

// P14.1: New returns ErrArg, and no machine, for nodes that there aren't, and for numbers of nodes that there can't be.
func TestNewRefuses(t *testing.T) {
	numbers := []int{bottom, bottom + 1, -1 << 32, -6, -5, -2, -1, 0, 1, 2, 3, 4, 5, 6, 7, 31, 63, 64, 65, 256, 1 << 32, 1<<32 + 3, top - 1, top}
	refused := 0
	for _, me := range numbers {
		for _, nodes := range numbers {
			if nodes == 2 && (me == 0 || me == 1) || nodes == 3 && me >= 0 && me <= 2 || nodes == 4 && me >= 0 && me <= 3 || nodes == 5 && me >= 0 && me <= 4 {
				continue
			}
			refused++
			if m, e := app.New(me, nodes); m != nil || e != api.ErrArg {
				t.Errorf("%d among %d: %v, %d", me, nodes, m, e)
			}
		}
	}
	if refused != len(numbers)*len(numbers)-14 {
		t.Errorf("%d refused", refused)
	}
}

// P14.1: machines are independent of one another.
func TestMachinesApart(t *testing.T) {
	a, b := machine(t, 0, 3), machine(t, 0, 3)
	a.Local(draft("a"))
	like(t, b, &model{me: 0, nodes: 3})
	like(t, machine(t, 0, 3), &model{me: 0, nodes: 3})
	b.Recv(1, op.Batch(lost(after("b"))))
	like(t, a, &model{me: 0, nodes: 3, present: []api.Op{after("a")}})
}

// P14.1: a draft of each kind becomes an operation of this node, which is present, and which is sent to all other nodes.
func TestLocal(t *testing.T) {
	all(func(me, nodes int) {
		for _, d := range good() {
			m := machine(t, me, nodes)
			o := api.Op{Draft: d, Author: me, Depth: 1}
			if e := m.May(d); e != api.OK {
				t.Errorf("May of %v: %d", d, e)
			}
			got, e := m.Local(d)
			if e != api.OK {
				t.Errorf("%v: %d", d, e)
			}
			outs(t, got, sent(except(nodes, me), o))
			like(t, m, &model{me: me, nodes: nodes, present: []api.Op{o}})
		}
	})
}

// P14.1: the masks of what a client asks for.
func TestLocalMasks(t *testing.T) {
	for _, one := range []struct{ me, nodes, mask int }{
		{0, 2, 0b10}, {1, 2, 0b01},
		{0, 3, 0b110}, {1, 3, 0b101}, {2, 3, 0b011},
		{0, 4, 0b1110}, {1, 4, 0b1101}, {2, 4, 0b1011}, {3, 4, 0b0111},
		{0, 5, 0b11110}, {1, 5, 0b11101}, {2, 5, 0b11011}, {3, 5, 0b10111}, {4, 5, 0b01111},
	} {
		got, e := machine(t, one.me, one.nodes).Local(draft("x"))
		if e != api.OK || len(got) != 1 || got[0].Mask != one.mask {
			t.Errorf("%d among %d: %v, %d", one.me, one.nodes, told(got), e)
		}
	}
}

// P14.1: each draft's operation is after all that is present, of its own and of others, one after the other; the same draft twice is two operations.
func TestLocalIsNext(t *testing.T) {
	m, want := machine(t, 2, 4), &model{me: 2, nodes: 4}
	for i, step := range []struct {
		from int
		ops  []api.Op
	}{
		{0, nil},
		{0, []api.Op{by(0, after("a"))}},
		{1, []api.Op{by(1, after("b")), by(3, after("c")), by(1, after("d", by(1, after("b"))))}},
		{3, []api.Op{lost(after("e"))}},
		{3, []api.Op{deep(after("f", by(0, after("a"))), 3)}},
	} {
		outs(t, m.Recv(step.from, op.Batch(step.ops...)), want.recv(step.from, op.Batch(step.ops...)))
		for range 3 {
			o, _ := want.next(draft("x"))
			wantOuts, wantE := want.local(draft("x"))
			got, e := m.Local(draft("x"))
			outs(t, got, wantOuts)
			if e != wantE || len(want.present) == 0 || o.Author != 2 {
				t.Errorf("%d: %d, not %d", i, e, wantE)
			}
			like(t, m, want)
		}
	}
	if len(want.present) != 19 || len(want.waiting) != 1 {
		t.Errorf("%d are present, %d are waiting", len(want.present), len(want.waiting))
	}
}

// P14.1: a draft that is not valid is ErrArg, with no output, and changes nothing; with too many heads, too.
func TestLocalRefuses(t *testing.T) {
	all(func(me, nodes int) {
		for _, count := range []int{0, 1, 32, 33} {
			ops := append(wide(count), lost(after("w")))
			m := given(t, me, nodes, ops...)
			for _, d := range bad() {
				if e := m.May(d); e != api.ErrArg {
					t.Errorf("May of %v: %d", d, e)
				}
				if got, e := m.Local(d); e != api.ErrArg || len(got) != 0 {
					t.Errorf("%v: %v, %d", d, told(got), e)
				}
			}
			like(t, m, &model{me: me, nodes: nodes, present: ops[:count], waiting: ops[count:]})
		}
	})
}

// P14.1: with more heads than an operation can have Preds Local returns ErrLong, with no output, and changes nothing; with 32 of them there is an operation after all of them, and with fewer again later.
func TestLocalOfManyHeads(t *testing.T) {
	for _, count := range []int{31, 32, 33, 34, 70} {
		ops := wide(count)
		m, want := given(t, 1, 3, ops...), &model{me: 1, nodes: 3, present: ops}
		e := api.OK
		if count > 32 {
			e = api.ErrLong
			for _, d := range good() {
				if got := m.May(d); got != e {
					t.Errorf("May with %d heads: %d", count, got)
				}
				if got, gotE := m.Local(d); gotE != e || len(got) != 0 {
					t.Errorf("%d heads: %v, %d", count, told(got), gotE)
				}
				like(t, m, want)
			}
			join := after("join", ops[:32]...)
			outs(t, m.Recv(0, op.Batch(join)), want.recv(0, op.Batch(join)))
			more := after("more", ops[min(32, count-1):min(64, count)]...)
			outs(t, m.Recv(0, op.Batch(more)), want.recv(0, op.Batch(more)))
		}
		if got := m.May(draft("x")); got != api.OK {
			t.Errorf("May after %d: %d", count, got)
		}
		wantOuts, _ := want.local(draft("x"))
		got, gotE := m.Local(draft("x"))
		outs(t, got, wantOuts)
		if gotE != api.OK || len(got) != 1 {
			t.Errorf("after %d heads: %v, %d", count, told(got), gotE)
		}
		like(t, m, want)
	}
}

// P14.1: May returns the error that Local would return, and changes nothing, however often.
func TestMayOnlyAsks(t *testing.T) {
	m, want := machine(t, 0, 3), &model{me: 0, nodes: 3}
	for i := range 5 {
		for _, d := range append(good(), bad()...) {
			_, e := want.next(d)
			if got := m.May(d); got != e {
				t.Errorf("%v: %d, not %d", d, got, e)
			}
		}
		like(t, m, want)
		wantOuts, _ := want.local(draft(strconv.Itoa(i)))
		got, _ := m.Local(draft(strconv.Itoa(i)))
		outs(t, got, wantOuts)
	}
}

// P14.1: what waited for the operation of a draft is present with it, and is not sent on: only the operation itself is.
func TestLocalReleases(t *testing.T) {
	mine := by(1, after("mine"))
	early := by(0, after("early", mine))
	later := by(2, after("later", early, mine))
	wrong := deep(after("wrong", early), 9)
	m := given(t, 1, 4, later, early, wrong)
	like(t, m, &model{me: 1, nodes: 4, waiting: []api.Op{later, early, wrong}})
	got, e := m.Local(draft("mine"))
	if e != api.OK {
		t.Errorf("%d", e)
	}
	outs(t, got, sent([]int{0, 2, 3}, mine))
	like(t, m, &model{me: 1, nodes: 4, present: []api.Op{mine, early, later}})
}

// P14.1: a nil machine: ErrNil for each draft, and otherwise nothing.
func TestNil(t *testing.T) {
	var m *app.Machine
	for range 2 {
		for _, d := range append(good(), bad()...) {
			if e := m.May(d); e != api.ErrNil {
				t.Errorf("May of %v: %d", d, e)
			}
			if got, e := m.Local(d); e != api.ErrNil || len(got) != 0 {
				t.Errorf("Local of %v: %v, %d", d, told(got), e)
			}
			if got, is := m.Input(api.Entry{Kind: api.Local, Draft: d}); is || len(got) != 0 {
				t.Errorf("Input of %v: %v, %v", d, told(got), is)
			}
		}
		for _, from := range []int{bottom, -1, 0, 1, 4, 5, top} {
			for _, payload := range []string{op.Batch(after("a")), op.Batch(), "", "what"} {
				if got := m.Recv(from, payload); len(got) != 0 {
					t.Errorf("Recv from %d: %v", from, told(got))
				}
				for kind := -1; kind < 5; kind++ {
					if got, is := m.Input(api.Entry{Kind: kind, From: from, Mask: 1, Payload: payload}); is || len(got) != 0 {
						t.Errorf("Input of kind %d from %d: %v, %v", kind, from, told(got), is)
					}
				}
			}
		}
		contains(t, m.Set())
		if got := m.Waits(); got != 0 {
			t.Errorf("%d are waiting", got)
		}
		s := m.Set()
		if names, e := s.Take(after("a")); e != api.OK || len(names) != 1 {
			t.Errorf("the set took nothing: %d", e)
		}
	}
}
