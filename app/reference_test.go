package app_test

import (
	"math"
	"slices"
	"strconv"
	"strings"
	"testing"

	"tribunal/api"
	"tribunal/app"
	"tribunal/dag"
	"tribunal/op"
)

// top and bottom are the greatest and the least number.
const (
	top    = math.MaxInt
	bottom = math.MinInt
)

// row is numbers that look like chance, the same ones in each run.
type row uint64

func (r *row) next(below int) int {
	*r = *r*6364136223846793005 + 1442695040888963407
	return int(uint64(*r)>>33) % below
}

// filled is the name whose bytes are all b: that of no operation here.
func filled(b byte) api.Id {
	var x api.Id
	for i := range x {
		x[i] = b
	}
	return x
}

// less tells whether a name is less than another one, byte by byte.
func less(a, b api.Id) bool {
	for i := range a {
		if a[i] != b[i] {
			return a[i] < b[i]
		}
	}
	return false
}

// compare tells how two names lie, byte by byte.
func compare(a, b api.Id) int {
	switch {
	case less(a, b):
		return -1
	case less(b, a):
		return 1
	}
	return 0
}

// sorted are the names of operations in ascending order.
func sorted(ops ...api.Op) []api.Id {
	names := named(ops...)
	slices.SortFunc(names, compare)
	return names
}

// named are the names of operations.
func named(ops ...api.Op) []api.Id {
	var names []api.Id
	for _, o := range ops {
		names = append(names, op.Name(o))
	}
	return names
}

// draft is one that is valid, of a value.
func draft(value string) api.Draft {
	return api.Draft{Kind: api.Add, Key: "k", Value: value}
}

// after is an operation whose Preds are these, and whose depth is correct if theirs are.
func after(value string, preds ...api.Op) api.Op {
	o := api.Op{Draft: draft(value), Depth: 1, Preds: sorted(preds...)}
	for _, pred := range preds {
		o.Depth = max(o.Depth, pred.Depth+1)
	}
	return o
}

// by is an operation of another author.
func by(author int, o api.Op) api.Op {
	o.Author = author
	return o
}

// deep is an operation with another depth.
func deep(o api.Op, depth int) api.Op {
	o.Depth = depth
	return o
}

// lost is an operation that waits for one that never comes.
func lost(o api.Op) api.Op {
	o.Preds, o.Depth = []api.Id{filled(0xff)}, o.Depth+1
	return o
}

// wide are so many operations without Preds.
func wide(count int) []api.Op {
	var ops []api.Op
	for i := range count {
		ops = append(ops, after(strconv.Itoa(i)))
	}
	return ops
}

// good are valid drafts, of all kinds, with the shortest and the longest that they can have.
func good() []api.Draft {
	long := strings.Repeat("k", 16)
	full := strings.Repeat("v", 64)
	return []api.Draft{
		{Kind: api.Add, Key: "k", Value: "x"},
		{Kind: api.Add, Key: long, Value: full},
		{Kind: api.Drop, Key: "k", Value: "x"},
		{Kind: api.Drop, Key: "\x00"},
		{Kind: api.Set, Key: "k", Value: "\xff"},
		{Kind: api.Set, Key: long},
		{Kind: api.Insert, Key: "k", Value: "v"},
		{Kind: api.Insert, Key: "k", Value: full, Ref: filled(3)},
		{Kind: api.Erase, Key: "k", Ref: filled(4)},
	}
}

// bad are drafts that are not valid.
func bad() []api.Draft {
	return []api.Draft{
		{},
		{Kind: 0, Key: "k"},
		{Kind: 6, Key: "k"},
		{Kind: -1, Key: "k"},
		{Kind: top, Key: "k"},
		{Kind: bottom, Key: "k"},
		{Kind: api.Add},
		{Kind: api.Add, Key: strings.Repeat("k", 17)},
		{Kind: api.Set, Key: "k", Value: strings.Repeat("v", 65)},
		{Kind: api.Add, Key: "k", Ref: filled(1)},
		{Kind: api.Drop, Key: "k", Ref: filled(1)},
		{Kind: api.Set, Key: "k", Ref: filled(1)},
		{Kind: api.Erase, Key: "k"},
		{Kind: api.Erase, Key: "k", Value: "v", Ref: filled(1)},
	}
}

// all calls f with each number of nodes, and each node of them.
func all(f func(me, nodes int)) {
	for nodes := 2; nodes <= 5; nodes++ {
		for me := range nodes {
			f(me, nodes)
		}
	}
}

// machine is a new one.
func machine(t *testing.T, me, nodes int) *app.Machine {
	t.Helper()
	m, e := app.New(me, nodes)
	if m == nil || e != api.OK {
		t.Fatalf("New of %d among %d: %d", me, nodes, e)
	}
	return m
}

// given is a new machine to which these came, one by one, from the next node.
func given(t *testing.T, me, nodes int, ops ...api.Op) *app.Machine {
	t.Helper()
	m := machine(t, me, nodes)
	for _, o := range ops {
		m.Recv((me+1)%nodes, op.Batch(o))
	}
	return m
}

// mask is that of nodes.
func mask(nodes ...int) int {
	bits := [5]int{1, 2, 4, 8, 16}
	sum := 0
	for _, node := range nodes {
		sum += bits[node]
	}
	return sum
}

// except are the nodes among so many that are none of these.
func except(nodes int, not ...int) []int {
	var rest []int
	for node := range nodes {
		if !slices.Contains(not, node) {
			rest = append(rest, node)
		}
	}
	return rest
}

// model is a machine as the chapter words it, with layer 10's set as its chapter does: lists that are searched from end to end.
type model struct {
	me, nodes        int
	present, waiting []api.Op
}

// at is the place of a name in a list, or -1.
func at(ops []api.Op, name api.Id) int {
	return slices.IndexFunc(ops, func(o api.Op) bool { return op.Name(o) == name })
}

// lacks tells whether a Pred is not present.
func (m *model) lacks(o api.Op) bool {
	return slices.ContainsFunc(o.Preds, func(pred api.Id) bool { return at(m.present, pred) < 0 })
}

// correct is the correct depth of an operation with these Preds.
func (m *model) correct(preds []api.Id) int {
	depth := 1
	for _, pred := range preds {
		depth = max(depth, m.present[at(m.present, pred)].Depth+1)
	}
	return depth
}

// take is layer 10's Take: those that become present, in order.
func (m *model) take(o api.Op) []api.Op {
	name := op.Name(o)
	if !op.Good(o) || at(m.present, name) >= 0 || at(m.waiting, name) >= 0 {
		return nil
	}
	if m.lacks(o) {
		m.waiting = append(m.waiting, o)
		return nil
	}
	if o.Depth != m.correct(o.Preds) {
		return nil
	}
	m.present = append(m.present, o)
	came := []api.Op{o}
	for {
		var ready []api.Op
		for _, o := range m.waiting {
			if !m.lacks(o) {
				ready = append(ready, o)
			}
		}
		if len(ready) == 0 {
			return came
		}
		i := at(m.waiting, sorted(ready...)[0])
		o := m.waiting[i]
		m.waiting = slices.Delete(slices.Clone(m.waiting), i, i+1)
		if o.Depth == m.correct(o.Preds) {
			m.present = append(m.present, o)
			came = append(came, o)
		}
	}
}

// heads are those that are present and no Pred of another such one.
func (m *model) heads() []api.Op {
	var list []api.Op
	for _, o := range m.present {
		name := op.Name(o)
		if !slices.ContainsFunc(m.present, func(o api.Op) bool { return slices.Contains(o.Preds, name) }) {
			list = append(list, o)
		}
	}
	return list
}

// next is layer 10's Next for the node.
func (m *model) next(d api.Draft) (api.Op, api.Errno) {
	heads := m.heads()
	switch {
	case !op.GoodDraft(d):
		return api.Op{}, api.ErrArg
	case len(heads) > 32:
		return api.Op{}, api.ErrLong
	}
	preds := sorted(heads...)
	return api.Op{Draft: d, Author: m.me, Depth: m.correct(preds), Preds: preds}, api.OK
}

func (m *model) local(d api.Draft) ([]api.Out, api.Errno) {
	o, e := m.next(d)
	if e != api.OK {
		return nil, e
	}
	m.take(o)
	return []api.Out{{Mask: mask(except(m.nodes, m.me)...), Payload: op.Batch(o)}}, api.OK
}

func (m *model) recv(from int, payload string) []api.Out {
	ops, e := op.ReadBatch(payload)
	if from < 0 || from >= m.nodes || e != api.OK {
		return nil
	}
	var came []api.Op
	for _, o := range ops {
		came = append(came, m.take(o)...)
	}
	return sent(except(m.nodes, m.me, from), came...)
}

func (m *model) input(e api.Entry) ([]api.Out, bool) {
	switch e.Kind {
	case 1:
		outs, errno := m.local(e.Draft)
		return outs, errno == api.OK
	case 2:
		if !slices.Contains(except(m.nodes, m.me), e.From) {
			return nil, false
		}
		return m.recv(e.From, e.Payload), true
	}
	return nil, false
}

// sent are the outputs that send each of these to nodes, by itself; none if there are no nodes.
func sent(to []int, ops ...api.Op) []api.Out {
	var outs []api.Out
	for _, o := range ops {
		if len(to) > 0 {
			outs = append(outs, api.Out{Mask: mask(to...), Payload: op.Batch(o)})
		}
	}
	return outs
}

// same tells whether two operations are the same; nil and empty Preds are.
func same(a, b api.Op) bool {
	return a.Draft == b.Draft && a.Author == b.Author && a.Depth == b.Depth && slices.Equal(a.Preds, b.Preds)
}

// contains fails, unless just these are present in a set, and none waits there.
func contains(t *testing.T, s *dag.Set, ops ...api.Op) {
	t.Helper()
	if s == nil {
		t.Fatal("there is no set")
	}
	if got, want := s.Names(), sorted(ops...); !slices.Equal(got, want) {
		t.Errorf("%d are present, %v, not %d, %v", len(got), short(got), len(want), short(want))
	}
	if got := s.Waits(); len(got) != 0 {
		t.Errorf("waiting in the set: %v", short(got))
	}
	for _, o := range ops {
		if got, e := s.Get(op.Name(o)); e != api.OK || !same(got, o) {
			t.Errorf("Get of %v: %v, %d", o, got, e)
		}
	}
}

// short are the first bytes of names, for messages.
func short(names []api.Id) []string {
	list := make([]string, len(names))
	for i, name := range names {
		list[i] = strconv.FormatUint(uint64(name[0])<<16|uint64(name[1])<<8|uint64(name[2]), 16)
	}
	return list
}

// like fails, unless a machine has what the model has, and May returns what Local of the model would.
func like(t *testing.T, m *app.Machine, want *model) {
	t.Helper()
	for range 2 {
		contains(t, m.Set(), want.present...)
		if got := m.Waits(); got != len(want.waiting) {
			t.Errorf("%d are waiting, not %d", got, len(want.waiting))
		}
		for _, d := range []api.Draft{draft("may"), {}} {
			_, e := want.next(d)
			if got := m.May(d); got != e {
				t.Errorf("May: %d, not %d", got, e)
			}
		}
	}
}

// outs fails, unless outputs are these, in this order.
func outs(t *testing.T, got, want []api.Out) {
	t.Helper()
	if !slices.Equal(got, want) {
		t.Errorf("%d outputs, %v, not %d, %v", len(got), told(got), len(want), told(want))
	}
}

// told are the masks and values of outputs, for messages.
func told(list []api.Out) []string {
	var texts []string
	for _, out := range list {
		text := strconv.Itoa(out.Mask)
		ops, e := op.ReadBatch(out.Payload)
		for _, o := range ops {
			text += " " + o.Value
		}
		if e != api.OK {
			text += " bytes that are no payload"
		}
		texts = append(texts, text)
	}
	return texts
}
