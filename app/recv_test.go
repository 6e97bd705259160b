package app_test

import (
	"strconv"
	"strings"
	"testing"

	"tribunal/api"
	"tribunal/op"
	"tribunal/pack"
)

// strangers are numbers that are none of a node among so many.
func strangers(nodes int) []int {
	return []int{bottom, bottom + 1, -64, -6, -2, -1, nodes, nodes + 1, 6, 31, 32, 63, 64, 65, 256, 1 << 32, 1<<32 + 1, top - 1, top}
}

// rejected are payloads that layer 9 rejects.
func rejected() []string {
	a, b := after("a"), after("b")
	whole := op.Batch(a, b)
	return []string{
		"",
		"what",
		whole[:len(whole)-1],
		whole + "\x00",
		whole + whole,
		op.Text(a),
		op.Batch(a, deep(b, 2)),
		op.Batch(by(5, a), b),
		op.Batch(a, b, api.Op{}),
		op.Batch(wide(9)...),
		pack.List(op.Text(a), ""),
		pack.List(op.Text(a), op.Text(b)+"x"),
		strings.Repeat("\x00", 300),
		strings.Repeat("x", 1<<18+1),
	}
}

// P14.1: the masks of what is sent on: neither this node, nor the one from which it arrived; with two nodes there is none.
func TestRecvMasks(t *testing.T) {
	for _, one := range []struct{ me, nodes, from, mask int }{
		{0, 3, 1, 0b100}, {0, 3, 2, 0b010}, {1, 3, 0, 0b100}, {1, 3, 2, 0b001}, {2, 3, 0, 0b010}, {2, 3, 1, 0b001},
		{0, 4, 3, 0b0110}, {3, 4, 0, 0b0110}, {1, 4, 2, 0b1001}, {2, 4, 1, 0b1001},
		{0, 5, 4, 0b01110}, {4, 5, 0, 0b01110}, {2, 5, 3, 0b10011}, {3, 5, 1, 0b10101},
		{0, 2, 0, 0b10}, {1, 2, 1, 0b01}, {1, 3, 1, 0b101}, {4, 5, 4, 0b01111},
	} {
		got := machine(t, one.me, one.nodes).Recv(one.from, op.Batch(after("x")))
		if len(got) != 1 || got[0].Mask != one.mask || got[0].Payload != op.Batch(after("x")) {
			t.Errorf("%d among %d, from %d: %v", one.me, one.nodes, one.from, told(got))
		}
	}
	for me := range 2 {
		m := machine(t, me, 2)
		if got := m.Recv(1-me, op.Batch(after("x"))); len(got) != 0 {
			t.Errorf("%d: %v", me, told(got))
		}
		like(t, m, &model{me: me, nodes: 2, present: []api.Op{after("x")}})
	}
}

// P14.1: from each node, this one, too, one operation is taken, whoever its author is, and is sent on.
func TestRecv(t *testing.T) {
	all(func(me, nodes int) {
		for from := range nodes {
			for author := range 5 {
				m := machine(t, me, nodes)
				o := by(author, after("x"))
				outs(t, m.Recv(from, op.Batch(o)), sent(except(nodes, me, from), o))
				like(t, m, &model{me: me, nodes: nodes, present: []api.Op{o}})
			}
		}
	})
}

// P14.1: from numbers that are no node's nothing is taken, and nothing sent.
func TestRecvFromStrangers(t *testing.T) {
	all(func(me, nodes int) {
		a, w := after("a"), lost(after("w"))
		m := given(t, me, nodes, a, w)
		for _, from := range strangers(nodes) {
			for _, payload := range []string{op.Batch(after("x")), op.Batch(), op.Batch(lost(after("v"))), "what"} {
				if got := m.Recv(from, payload); len(got) != 0 {
					t.Errorf("from %d of %d: %v", from, nodes, told(got))
				}
			}
		}
		like(t, m, &model{me: me, nodes: nodes, present: []api.Op{a}, waiting: []api.Op{w}})
	})
}

// P14.1: of a payload that layer 9 rejects nothing is taken, not even the operations that are valid.
func TestRecvRejected(t *testing.T) {
	all(func(me, nodes int) {
		o, w := after("o"), lost(after("w"))
		m := given(t, me, nodes, o, w)
		for from := range nodes {
			for i, payload := range rejected() {
				if got := m.Recv(from, payload); len(got) != 0 {
					t.Errorf("payload %d from %d: %v", i, from, told(got))
				}
			}
		}
		like(t, m, &model{me: me, nodes: nodes, present: []api.Op{o}, waiting: []api.Op{w}})
	})
}

// P14.1: of payloads with none, one, several, and as many as there can be, each is sent on by itself, in their order; with one more there is nothing.
func TestRecvOfSeveral(t *testing.T) {
	for count := range 10 {
		for from := range 4 {
			m := machine(t, 1, 4)
			ops := wide(count)
			if count > 2 {
				ops[0], ops[2] = ops[2], ops[0]
			}
			if count > 8 {
				outs(t, m.Recv(from, op.Batch(ops...)), nil)
				like(t, m, &model{me: 1, nodes: 4})
				continue
			}
			outs(t, m.Recv(from, op.Batch(ops...)), sent(except(4, 1, from), ops...))
			like(t, m, &model{me: 1, nodes: 4, present: ops})
		}
	}
}

// P14.1: what comes twice is sent on once: in one payload, in two, from two nodes, and while it waits.
func TestRecvTwice(t *testing.T) {
	a := after("a")
	b := after("b", a)
	c := after("c", b)
	m := machine(t, 0, 4)
	outs(t, m.Recv(1, op.Batch(c, a, c, a)), sent([]int{2, 3}, a))
	outs(t, m.Recv(2, op.Batch(a, c)), nil)
	outs(t, m.Recv(1, op.Batch(c)), nil)
	like(t, m, &model{me: 0, nodes: 4, present: []api.Op{a}, waiting: []api.Op{c}})
	outs(t, m.Recv(3, op.Batch(a, b, b, c)), sent([]int{1, 2}, b, c))
	outs(t, m.Recv(3, op.Batch(a, b, c)), nil)
	outs(t, m.Recv(1, op.Batch(c)), nil)
	like(t, m, &model{me: 0, nodes: 4, present: []api.Op{a, b, c}})
}

// P14.1: what this node did itself, and what it has, is not sent on when others send it back.
func TestRecvOfOwn(t *testing.T) {
	m := machine(t, 0, 3)
	out, _ := m.Local(draft("x"))
	outs(t, m.Recv(1, out[0].Payload), nil)
	outs(t, m.Recv(2, out[0].Payload), nil)
	outs(t, m.Recv(0, out[0].Payload), nil)
	like(t, m, &model{me: 0, nodes: 3, present: []api.Op{after("x")}})
}

// P14.1: one with a wrong depth is neither present nor waiting, is not sent on, and keeps the others of its payload from nothing; those after it wait.
func TestRecvOfWrongDepth(t *testing.T) {
	a := after("a")
	wrong := deep(after("wrong", a), 3)
	behind := after("behind", wrong)
	right := after("right", a)
	m := machine(t, 1, 3)
	outs(t, m.Recv(0, op.Batch(a, wrong, behind, right)), sent([]int{2}, a, right))
	like(t, m, &model{me: 1, nodes: 3, present: []api.Op{a, right}, waiting: []api.Op{behind}})
	outs(t, m.Recv(2, op.Batch(wrong)), nil)
	like(t, m, &model{me: 1, nodes: 3, present: []api.Op{a, right}, waiting: []api.Op{behind}})

	m = machine(t, 1, 3)
	outs(t, m.Recv(0, op.Batch(behind, wrong)), nil)
	like(t, m, &model{me: 1, nodes: 3, waiting: []api.Op{wrong, behind}})
	outs(t, m.Recv(2, op.Batch(right, a)), sent([]int{0}, a, right))
	like(t, m, &model{me: 1, nodes: 3, present: []api.Op{a, right}, waiting: []api.Op{behind}})
}

// P14.1: what waits is not sent on; what another one releases is, in the order that Take returns, each by itself, and not to the node from which that one arrived.
func TestRecvReleases(t *testing.T) {
	a := after("a")
	ops := []api.Op{a}
	for i := range 12 {
		ops = append(ops, after("b"+strconv.Itoa(i), a))
	}
	ops = append(ops, after("c", ops[3], ops[4]), after("d", ops[1:]...))
	m, want := machine(t, 2, 5), &model{me: 2, nodes: 5}
	for _, o := range ops[1:] {
		outs(t, m.Recv(1, op.Batch(o)), nil)
		want.recv(1, op.Batch(o))
	}
	like(t, m, &model{me: 2, nodes: 5, waiting: ops[1:]})
	came := (&model{me: 2, nodes: 5, waiting: ops[1:]}).take(a)
	if len(came) != len(ops) {
		t.Fatalf("%d", len(came))
	}
	outs(t, m.Recv(4, op.Batch(a)), sent([]int{0, 1, 3}, came...))
	like(t, m, &model{me: 2, nodes: 5, present: ops})
}

// P14.1: several operations of one payload release others, each of them those that waited for it, before the next one is taken.
func TestRecvReleasesOneByOne(t *testing.T) {
	a, b, c := after("a"), after("b"), after("c")
	overA, overB, overBoth := after("over a", a), after("over b", b), after("over both", a, b)
	m := given(t, 0, 3, overBoth, overB, overA)
	if m.Waits() != 3 {
		t.Errorf("%d are waiting", m.Waits())
	}
	rest := []api.Op{b, overB, overBoth}
	if less(op.Name(overBoth), op.Name(overB)) {
		rest = []api.Op{b, overBoth, overB}
	}
	outs(t, m.Recv(2, op.Batch(a, c, b)), sent([]int{1}, append([]api.Op{a, overA, c}, rest...)...))
	like(t, m, &model{me: 0, nodes: 3, present: []api.Op{a, b, c, overA, overB, overBoth}})
}

// P14.1: with two nodes nothing is sent on, however much is released; what this one sends to itself is.
func TestRecvOfTwoNodes(t *testing.T) {
	a := after("a")
	b := after("b", a)
	c := after("c", b)
	for me := range 2 {
		m := machine(t, me, 2)
		for _, payload := range []string{op.Batch(c), op.Batch(b, a), op.Batch(a, b, c)} {
			outs(t, m.Recv(1-me, payload), nil)
		}
		like(t, m, &model{me: me, nodes: 2, present: []api.Op{a, b, c}})
		m = machine(t, me, 2)
		outs(t, m.Recv(me, op.Batch(c)), nil)
		outs(t, m.Recv(1-me, op.Batch(b)), nil)
		outs(t, m.Recv(me, op.Batch(a)), sent([]int{1 - me}, a, b, c))
	}
}

// P14.1: a long line that arrives from its end on is released at once, and sent on in its order.
func TestRecvOfLongLine(t *testing.T) {
	const count = 3000
	ops := []api.Op{after("first")}
	for i := range count {
		ops = append(ops, after(strconv.Itoa(i), ops[i]))
	}
	m := machine(t, 0, 3)
	for i := count; i > 0; i-- {
		m.Recv(1, op.Batch(ops[i]))
	}
	if m.Waits() != count {
		t.Errorf("%d are waiting", m.Waits())
	}
	outs(t, m.Recv(2, op.Batch(ops[0])), sent([]int{1}, ops...))
	if m.Waits() != 0 {
		t.Errorf("%d are waiting", m.Waits())
	}
	contains(t, m.Set(), ops...)
}

// P14.1: one with as many Preds, and as long a key and value, as there can be is sent on as it came.
func TestRecvOfGreatest(t *testing.T) {
	ops := wide(32)
	o := after(strings.Repeat("v", 64), ops...)
	o.Key = strings.Repeat("k", 16)
	m := given(t, 0, 3, ops...)
	outs(t, m.Recv(1, op.Batch(o)), sent([]int{2}, o))
	like(t, m, &model{me: 0, nodes: 3, present: append(ops, o)})
}
