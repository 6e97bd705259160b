package app_test

import (
	"testing"

	"tribunal/api"
	"tribunal/op"
)

// P14.1: Input for a Local with a valid draft does what Local does.
func TestInputLocal(t *testing.T) {
	all(func(me, nodes int) {
		m, want := machine(t, me, nodes), &model{me: me, nodes: nodes}
		for _, d := range good() {
			wantOuts, e := want.local(d)
			got, is := m.Input(api.Entry{Kind: api.Local, Draft: d})
			outs(t, got, wantOuts)
			if !is || e != api.OK || len(got) != 1 {
				t.Errorf("%v: %v, %d", d, is, e)
			}
			like(t, m, want)
		}
	})
}

// P14.1: Input for a Local that Local refuses: nothing, false.
func TestInputLocalRefused(t *testing.T) {
	for _, count := range []int{0, 1, 33} {
		ops := wide(count)
		m := given(t, 0, 3, ops...)
		drafts := bad()
		if count > 32 {
			drafts = append(drafts, good()...)
		}
		for _, d := range drafts {
			for _, from := range []int{0, 1, 5} {
				if got, is := m.Input(api.Entry{Kind: api.Local, Draft: d, From: from, Payload: op.Batch(after("x"))}); is || len(got) != 0 {
					t.Errorf("%v: %v, %v", d, told(got), is)
				}
			}
		}
		like(t, m, &model{me: 0, nodes: 3, present: ops})
	}
}

// P14.1: Input for a Recv from another node does what Recv does; it is true for each payload, also for one that is rejected, or sends nothing.
func TestInputRecv(t *testing.T) {
	all(func(me, nodes int) {
		a := after("a")
		b := after("b", a)
		c := after("c", b)
		for _, from := range except(nodes, me) {
			m, want := machine(t, me, nodes), &model{me: me, nodes: nodes}
			for _, payload := range append(rejected(), op.Batch(), op.Batch(c), op.Batch(deep(a, 2)), op.Batch(b, a), op.Batch(a), op.Batch(a, b, c)) {
				got, is := m.Input(api.Entry{Kind: api.Recv, From: from, Payload: payload, Draft: draft("other"), Seq: 3, Mask: 1, Sig: "sig", Prev: filled(2)})
				outs(t, got, want.recv(from, payload))
				if !is {
					t.Errorf("from %d of %d: false", from, nodes)
				}
				like(t, m, want)
			}
			like(t, m, &model{me: me, nodes: nodes, present: []api.Op{a, b, c}})
		}
	})
}

// P14.1: Input for a Recv from this node, or from none: nothing, false.
func TestInputRecvRefused(t *testing.T) {
	all(func(me, nodes int) {
		w := lost(after("w"))
		m := given(t, me, nodes, w)
		for _, from := range append(strangers(nodes), me) {
			for _, payload := range []string{op.Batch(after("x")), op.Batch(), op.Batch(lost(after("v"))), "what"} {
				if got, is := m.Input(api.Entry{Kind: api.Recv, From: from, Payload: payload, Draft: draft("x")}); is || len(got) != 0 {
					t.Errorf("from %d, this one is %d of %d: %v, %v", from, me, nodes, told(got), is)
				}
			}
		}
		like(t, m, &model{me: me, nodes: nodes, waiting: []api.Op{w}})
	})
}

// P14.1: Input for a Send, and for kinds that there are none of: nothing, false.
func TestInputOfOtherKinds(t *testing.T) {
	a := after("a")
	m := given(t, 0, 3, a)
	for _, kind := range []int{bottom, -3, -2, -1, 0, api.Send, 4, 5, 6, 257, 258, 1<<32 + 1, 1<<32 + 2, top} {
		for _, payload := range []string{op.Batch(after("x")), op.Batch(), "what"} {
			for from := -1; from < 4; from++ {
				if got, is := m.Input(api.Entry{Kind: kind, Draft: draft("x"), From: from, Seq: 1, Mask: 6, Payload: payload}); is || len(got) != 0 {
					t.Errorf("kind %d: %v, %v", kind, told(got), is)
				}
			}
		}
	}
	like(t, m, &model{me: 0, nodes: 3, present: []api.Op{a}})
}
