package app_test

import (
	"slices"
	"strconv"
	"testing"

	"tribunal/api"
	"tribunal/app"
	"tribunal/op"
)

// universe are so many operations that build on each other; some have a wrong depth, or Preds that nobody has, or aren't valid.
func universe(chance *row, size int) []api.Op {
	var ops []api.Op
	for i := range size {
		var preds []api.Op
		for range chance.next(4) {
			if i > 0 {
				o := ops[i-1-chance.next(min(i, 8))]
				if op.Good(o) && at(preds, op.Name(o)) < 0 {
					preds = append(preds, o)
				}
			}
		}
		o := by(chance.next(5), after(strconv.Itoa(i), preds...))
		switch chance.next(80) {
		case 0:
			o = deep(o, o.Depth+1+chance.next(2))
		case 1:
			o = deep(o, max(2, o.Depth-1))
		case 2:
			o = lost(o)
		case 3:
			o = by(5, o)
		}
		ops = append(ops, o)
	}
	return ops
}

// drawn are all operations in a drawn order, some of them several times.
func drawn(chance *row, ops []api.Op) []api.Op {
	ops = slices.Clone(ops)
	for range len(ops) / 2 {
		ops = append(ops, ops[chance.next(len(ops))])
	}
	for i := range ops {
		j := i + chance.next(len(ops)-i)
		ops[i], ops[j] = ops[j], ops[i]
	}
	return ops
}

// script are inputs that bring operations in drawn orders, in payloads of none, one, or several, from all nodes and now and then from none, with drafts between them, and with entries that are no inputs.
func script(chance *row, nodes int, ops []api.Op) []api.Entry {
	var list []api.Entry
	rest := drawn(chance, ops)
	for len(rest) > 0 {
		from := chance.next(nodes)
		if chance.next(16) == 0 {
			from = strangers(nodes)[chance.next(12)]
		}
		switch chance.next(8) {
		case 0:
			list = append(list, api.Entry{Kind: api.Local, Draft: draft(strconv.Itoa(chance.next(4)))})
		case 1:
			list = append(list, api.Entry{Kind: api.Local, Draft: bad()[chance.next(len(bad()))]})
		case 2:
			list = append(list, api.Entry{Kind: chance.next(7) - 1, From: from, Payload: rejected()[chance.next(10)]})
		default:
			count := min(chance.next(4), len(rest))
			list = append(list, api.Entry{Kind: api.Recv, From: from, Payload: op.Batch(rest[:count]...)})
			rest = rest[count:]
		}
	}
	return list
}

// does gives an input to a machine by its own call, if there is one for it, and by Input otherwise.
func does(m *app.Machine, e api.Entry) []api.Out {
	switch e.Kind {
	case api.Local:
		list, _ := m.Local(e.Draft)
		return list
	case api.Recv:
		return m.Recv(e.From, e.Payload)
	}
	list, _ := m.Input(e)
	return list
}

// P14.1: after each input of drawn scripts a machine has returned what the model does, by whichever call, and has what it has.
func TestLikeReference(t *testing.T) {
	var chance row = 4
	sent, released, waited, refused := 0, 0, 0, 0
	for i := range 40 {
		nodes := 2 + i%4
		me := chance.next(nodes)
		m, want := machine(t, me, nodes), &model{me: me, nodes: nodes}
		for _, e := range script(&chance, nodes, universe(&chance, 25)) {
			before := len(want.waiting)
			got, wantOuts := []api.Out(nil), []api.Out(nil)
			if chance.next(2) == 0 {
				got, wantOuts = does(m, e), expected(want, e)
			} else {
				list, is := m.Input(e)
				wantList, wantIs := want.input(e)
				if is != wantIs {
					t.Errorf("%v: %v", e, is)
				}
				if !is {
					refused++
				}
				got, wantOuts = list, wantList
			}
			outs(t, got, wantOuts)
			like(t, m, want)
			sent += len(got)
			waited += len(want.waiting)
			if len(want.waiting) < before {
				released++
			}
		}
		if t.Failed() {
			return
		}
	}
	if sent < 500 || released < 40 || waited < 500 || refused < 100 {
		t.Errorf("only %d outputs, %d releases, %d waiting, %d refused", sent, released, waited, refused)
	}
}

// P14.2: machines with the same inputs in the same order return the same outputs, and have the same operations, after each of them; whichever calls bring them.
func TestSameInputs(t *testing.T) {
	var chance row = 6
	for i := range 24 {
		nodes := 2 + i%4
		me := chance.next(nodes)
		inputs := script(&chance, nodes, universe(&chance, 60))
		a, b, c := machine(t, me, nodes), machine(t, me, nodes), machine(t, me, nodes)
		for _, e := range inputs {
			if e.Kind == api.Recv && (e.From == me || e.From < 0 || e.From >= nodes) {
				// There Recv and Input differ, as they should.
				continue
			}
			first, is := a.Input(e)
			second, same := b.Input(e)
			if is != same {
				t.Errorf("%v: %v and %v", e, is, same)
			}
			outs(t, second, first)
			outs(t, does(c, e), first)
			if chance.next(3) == 0 {
				// What only asks one of them makes no difference.
				b.Set()
				b.Waits()
				b.May(draft("x"))
			}
		}
		for _, other := range []*app.Machine{b, c} {
			if !slices.Equal(a.Set().Names(), other.Set().Names()) || a.Waits() != other.Waits() {
				t.Errorf("%v, %d, and %v, %d", short(a.Set().Names()), a.Waits(), short(other.Set().Names()), other.Waits())
			}
		}
		if len(a.Set().Names()) < 12 {
			t.Errorf("only %d operations", len(a.Set().Names()))
		}
	}
}

// P14.2: a payload that arrives twice changes nothing and sends nothing the second time: at once, from any node, and at the end of it all.
func TestTwice(t *testing.T) {
	var chance row = 9
	for i := range 24 {
		nodes := 2 + i%4
		me := chance.next(nodes)
		m, want := machine(t, me, nodes), &model{me: me, nodes: nodes}
		inputs := script(&chance, nodes, universe(&chance, 30))
		for _, e := range inputs {
			outs(t, does(m, e), expected(want, e))
			if e.Kind != api.Recv || e.From < 0 || e.From >= nodes {
				continue
			}
			outs(t, does(m, e), nil)
			for from := range nodes {
				e.From = from
				outs(t, does(m, e), nil)
				if got, is := m.Input(e); is != (from != me) || len(got) != 0 {
					t.Errorf("%v: %v, %v", e, told(got), is)
				}
			}
			like(t, m, want)
		}
		for _, e := range inputs {
			if e.Kind == api.Recv && e.From >= 0 && e.From < nodes {
				outs(t, does(m, e), nil)
			}
		}
		like(t, m, want)
		if t.Failed() {
			return
		}
	}
}

// expected gives an input to a model, as does gives it to a machine.
func expected(m *model, e api.Entry) []api.Out {
	switch e.Kind {
	case api.Local:
		list, _ := m.local(e.Draft)
		return list
	case api.Recv:
		return m.recv(e.From, e.Payload)
	}
	return nil
}

// P14.2: whatever the order in which the same payloads arrive, the same operations are present and waiting in the end.
func TestOtherOrders(t *testing.T) {
	var chance row = 10
	for range 6 {
		ops := universe(&chance, 50)
		first := given(t, 1, 3, drawn(&chance, ops)...)
		for range 5 {
			other := given(t, 1, 3, drawn(&chance, ops)...)
			if !slices.Equal(first.Set().Names(), other.Set().Names()) || first.Waits() != other.Waits() {
				t.Errorf("%v, %d, and %v, %d", short(first.Set().Names()), first.Waits(), short(other.Set().Names()), other.Waits())
			}
		}
	}
}

// way is a payload that is on its way to a node.
type way struct {
	from, to int
	payload  string
}

// ways are those of outputs.
func ways(from int, list []api.Out) []way {
	var all []way
	for _, out := range list {
		for to := range 5 {
			if out.Mask>>to&1 == 1 {
				all = append(all, way{from, to, out.Payload})
			}
		}
	}
	return all
}

// P14.1, P14.2: machines that send one another all their outputs come to have the same operations, in whatever order these arrive, and however often.
func TestMachinesTogether(t *testing.T) {
	var chance row = 12
	for i := range 16 {
		nodes := 2 + i%4
		var all []*app.Machine
		for me := range nodes {
			all = append(all, machine(t, me, nodes))
		}
		var on []way
		drafts := 0
		for drafts < 30 || len(on) > 0 {
			if me := chance.next(nodes); drafts < 30 && chance.next(4) == 0 && all[me].May(draft("x")) == api.OK {
				out, _ := all[me].Local(draft(strconv.Itoa(drafts)))
				on = append(on, ways(me, out)...)
				drafts++
			} else if len(on) > 0 {
				i := chance.next(len(on))
				w := on[i]
				if chance.next(4) > 0 {
					on = slices.Delete(on, i, i+1)
				}
				on = append(on, ways(w.to, all[w.to].Recv(w.from, w.payload))...)
			}
		}
		for me, m := range all {
			if got := m.Set().Names(); len(got) != drafts || !slices.Equal(got, all[0].Set().Names()) || m.Waits() != 0 {
				t.Errorf("%d of %d has %d operations, %d are waiting", me, nodes, len(got), m.Waits())
			}
		}
	}
}

// P14.1: the example: 0 of three nodes performs an operation, 1 forwards it to 2, which forwards it to 0; nobody sends it again.
func TestExample(t *testing.T) {
	var m [3]*app.Machine
	for i := range m {
		m[i] = machine(t, i, 3)
	}
	o := by(0, after("x"))
	first, e := m[0].Local(draft("x"))
	if e != api.OK {
		t.Errorf("%d", e)
	}
	outs(t, first, []api.Out{{Mask: 6, Payload: op.Batch(o)}})
	outs(t, m[1].Recv(0, first[0].Payload), []api.Out{{Mask: 4, Payload: op.Batch(o)}})
	outs(t, m[2].Recv(1, first[0].Payload), []api.Out{{Mask: 1, Payload: op.Batch(o)}})
	outs(t, m[2].Recv(0, first[0].Payload), nil)
	outs(t, m[0].Recv(2, first[0].Payload), nil)
	for me := range m {
		like(t, m[me], &model{me: me, nodes: 3, present: []api.Op{o}})
	}
}
