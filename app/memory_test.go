package app_test

import (
	"slices"
	"strconv"
	"testing"

	"tribunal/api"
	"tribunal/app"
	"tribunal/op"
)

// spoil changes all that a slice can reach.
func spoil[T any](all []T, bad T) {
	whole := all[:cap(all)]
	for i := range whole {
		whole[i] = bad
	}
}

// sample is a machine with operations that are present, of its own and of others, and others that wait, and a model of it.
func sample(t *testing.T) (*app.Machine, *model) {
	t.Helper()
	a, b := by(1, after("a")), by(2, after("b"))
	c := after("c", a, b)
	w := lost(after("w"))
	m, want := machine(t, 0, 3), &model{me: 0, nodes: 3}
	for _, o := range []api.Op{c, b, w, after("v", w), a} {
		m.Recv(1, op.Batch(o))
		want.recv(1, op.Batch(o))
	}
	m.Local(draft("d"))
	want.local(draft("d"))
	if len(want.present) != 4 || len(want.waiting) != 2 {
		t.Fatalf("%d are present, %d are waiting", len(want.present), len(want.waiting))
	}
	return m, want
}

// P14.1: Set has all operations that are present, in whatever order they came, and none that is waiting.
func TestSet(t *testing.T) {
	ops := wide(3)
	for i := range 40 {
		ops = append(ops, after("line"+strconv.Itoa(i), ops[len(ops)-1], ops[len(ops)-3]))
	}
	waiting := []api.Op{lost(after("w")), after("v", lost(after("w")), ops[5])}
	var chance row = 3
	for range 5 {
		all := append(slices.Clone(ops), waiting...)
		for i := range all {
			j := i + chance.next(len(all)-i)
			all[i], all[j] = all[j], all[i]
		}
		m := given(t, 0, 2, all...)
		contains(t, m.Set(), ops...)
		if m.Waits() != 2 {
			t.Errorf("%d are waiting", m.Waits())
		}
		heads := (&model{present: ops}).heads()
		if got := m.Set().Heads(); !slices.Equal(got, sorted(heads...)) {
			t.Errorf("heads: %v, not %v", short(got), short(sorted(heads...)))
		}
	}
}

// P14.1: what becomes of a machine is not seen in a set that it returned before.
func TestSetApartFromMachine(t *testing.T) {
	m, want := sample(t)
	s := m.Set()
	before := slices.Clone(want.present)
	m.Local(draft("more"))
	m.Recv(1, op.Batch(by(1, after("others")), after("behind", before[0])))
	contains(t, s, before...)
	if got, e := s.Next(0, draft("more")); e != api.OK || !slices.Equal(got.Preds, sorted(want.heads()...)) {
		t.Errorf("%v, %d", got, e)
	}
}

// P14.1: what a caller does to a set that he was returned is seen neither in the machine, nor in its other sets.
func TestMachineApartFromSet(t *testing.T) {
	m, want := sample(t)
	s, other := m.Set(), m.Set()
	x := by(4, after("x"))
	for _, o := range []api.Op{x, after("y", want.present...), lost(after("z"))} {
		if _, e := s.Take(o); e != api.OK {
			t.Errorf("%d", e)
		}
	}
	for _, o := range want.waiting {
		if names, e := s.Take(o); len(names) != 0 || e != api.OK {
			t.Errorf("the set knows what waits: %v, %d", short(names), e)
		}
	}
	contains(t, other, want.present...)
	like(t, m, want)
	outs(t, m.Recv(2, op.Batch(x)), want.recv(2, op.Batch(x)))
	wantOuts, _ := want.local(draft("e"))
	got, _ := m.Local(draft("e"))
	outs(t, got, wantOuts)
	like(t, m, want)
}

// P14.1, rule 3: what a caller does to outputs, and to the names and Preds of a set, changes nothing later.
func TestResultsNotKept(t *testing.T) {
	m, want := sample(t)
	bad := api.Out{Mask: 99, Payload: "spoilt"}
	for i := range 3 {
		text := strconv.Itoa(i)
		x := by(2, after("x"+text, want.present...))
		wantLocal, _ := want.local(draft(text))
		local, _ := m.Local(draft(text))
		outs(t, local, wantLocal)
		recv, wantRecv := m.Recv(2, op.Batch(x, by(3, x))), want.recv(2, op.Batch(x, by(3, x)))
		outs(t, recv, wantRecv)
		spoil(local, bad)
		outs(t, recv, wantRecv)
		spoil(recv, bad)
		d := api.Entry{Kind: api.Local, Draft: draft("input" + text)}
		wantInput, _ := want.input(d)
		input, _ := m.Input(d)
		outs(t, input, wantInput)
		spoil(input, bad)
		s := m.Set()
		spoil(s.Names(), filled(9))
		o, _ := s.Get(op.Name(x))
		spoil(o.Preds, filled(9))
		like(t, m, want)
	}
}

// P14.1, rule 2: calls that fail, and calls that only ask, leave a machine as it is.
func TestUnchanged(t *testing.T) {
	m, want := sample(t)
	for _, payload := range rejected() {
		m.Recv(1, payload)
		m.Input(api.Entry{Kind: api.Recv, From: 2, Payload: payload})
		m.Input(api.Entry{Kind: api.Recv, From: 0, Payload: op.Batch(by(3, after("x")))})
		m.Input(api.Entry{Kind: api.Send, From: 1, Mask: 6, Payload: op.Batch(by(3, after("x")))})
	}
	for _, d := range bad() {
		m.Local(d)
		m.Input(api.Entry{Kind: api.Local, Draft: d})
	}
	m.Recv(3, op.Batch(by(3, after("x"))))
	m.Recv(-1, op.Batch(by(3, after("x"))))
	m.May(draft("x"))
	m.Set().Take(by(3, after("x")))
	like(t, m, want)
}
