package list_test

import (
	"math"
	"slices"
	"testing"

	"tribunal/api"
	"tribunal/dag"
	"tribunal/list"
	"tribunal/op"
)

// row is numbers that look like chance, the same ones in each run.
type row uint64

func (r *row) next(below int) int {
	*r = *r*6364136223846793005 + 1442695040888963407
	return int(uint64(*r)>>33) % below
}

// start is what an element at the beginning of a list refers to.
var start api.Id

// filled is the name whose bytes are all b: that of no operation here.
func filled(b byte) api.Id {
	var x api.Id
	for i := range x {
		x[i] = b
	}
	return x
}

// less tells whether a name is less than another one, byte by byte.
func less(a, b api.Id) bool {
	for i := range a {
		if a[i] != b[i] {
			return a[i] < b[i]
		}
	}
	return false
}

// compare tells how two names lie, byte by byte.
func compare(a, b api.Id) int {
	switch {
	case less(a, b):
		return -1
	case less(b, a):
		return 1
	}
	return 0
}

// sorted are the names of operations in ascending order.
func sorted(ops ...api.Op) []api.Id {
	names := named(ops...)
	slices.SortFunc(names, compare)
	return names
}

// named are the names of operations.
func named(ops ...api.Op) []api.Id {
	var names []api.Id
	for _, o := range ops {
		names = append(names, op.Name(o))
	}
	return names
}

// made is an operation whose Preds are these, and whose depth is correct if theirs are.
func made(d api.Draft, preds ...api.Op) api.Op {
	o := api.Op{Draft: d, Depth: 1, Preds: sorted(preds...)}
	for _, pred := range preds {
		o.Depth = max(o.Depth, pred.Depth+1)
	}
	return o
}

// insert, erase and add are operations behind others.
func insert(key, value string, ref api.Id, preds ...api.Op) api.Op {
	return made(api.Draft{Kind: api.Insert, Key: key, Value: value, Ref: ref}, preds...)
}

func erase(key string, ref api.Id, preds ...api.Op) api.Op {
	return made(api.Draft{Kind: api.Erase, Key: key, Ref: ref}, preds...)
}

func add(key, value string, preds ...api.Op) api.Op {
	return made(api.Draft{Kind: api.Add, Key: key, Value: value}, preds...)
}

// behind is an Insert after the element of another one, which is its only predecessor.
func behind(o api.Op, value string) api.Op {
	return insert(o.Key, value, op.Name(o), o)
}

// without is an Erase of an Insert's element, which is its only predecessor.
func without(o api.Op) api.Op {
	return erase(o.Key, op.Name(o), o)
}

// by is an operation of another author, with another name therefore.
func by(author int, o api.Op) api.Op {
	o.Author = author
	return o
}

// deep is an operation with another depth.
func deep(o api.Op, depth int) api.Op {
	o.Depth = depth
	return o
}

// lost is an operation that waits for one that never comes.
func lost(o api.Op) api.Op {
	o.Preds, o.Depth = []api.Id{filled(0xff)}, o.Depth+1
	return o
}

// nameBelow finds an operation, of those that make gives for numbers, whose name is below, or is not below, that of another one.
func nameBelow(is bool, other api.Op, make func(i int) api.Op) api.Op {
	for i := 0; ; i++ {
		if o := make(i); less(op.Name(o), op.Name(other)) == is {
			return o
		}
	}
}

// filledBy is a set that was given these; it may have refused some.
func filledBy(ops ...api.Op) *dag.Set {
	s := dag.New()
	for _, o := range ops {
		s.Take(o)
	}
	return s
}

// held are those of a list that are present in a set that was given all of them: the greatest number of them such that with each its Preds are present, and its depth is correct.
func held(ops []api.Op) []api.Op {
	depths := map[api.Id]int{}
	var present []api.Op
	for size := -1; size < len(present); {
		size = len(present)
		for _, o := range ops {
			depth, closed := 1, op.Good(o)
			for _, pred := range o.Preds {
				closed = closed && depths[pred] > 0
				depth = max(depth, depths[pred]+1)
			}
			if name := op.Name(o); closed && depth == o.Depth && depths[name] == 0 {
				depths[name] = depth
				present = append(present, o)
			}
		}
	}
	return present
}

// model is what is present, in layer 11's order, with the names.
type model struct {
	ops   []api.Op
	names []api.Id
}

// modelOf is the model of a set that was given these.
func modelOf(ops []api.Op) *model {
	m := &model{ops: held(ops)}
	slices.SortFunc(m.ops, func(a, b api.Op) int {
		if a.Depth != b.Depth {
			return a.Depth - b.Depth
		}
		return compare(op.Name(a), op.Name(b))
	})
	m.names = named(m.ops...)
	return m
}

// place is where an element is in a list, or -1.
func place(items []list.Item, name api.Id) int {
	return slices.IndexFunc(items, func(x list.Item) bool { return x.Id == name })
}

// items are the elements of a key's list, in the chapter's words: level by level, each is put immediately after its Ref, ahead of those that others have put there, as long as there is one more whose Ref is an element.
func (m *model) items(key string) []list.Item {
	var items []list.Item
	for size := -1; size < len(items); {
		size = len(items)
		there := slices.Clone(items)
		for i, o := range m.ops {
			if o.Kind != api.Insert || o.Key != key || place(there, m.names[i]) >= 0 {
				continue
			}
			if o.Ref == start && len(there) == 0 || place(there, o.Ref) >= 0 {
				items = slices.Insert(items, place(items, o.Ref)+1, list.Item{Id: m.names[i], Value: o.Value})
			}
		}
	}
	for i, x := range items {
		for _, o := range m.ops {
			if o.Kind == api.Erase && o.Key == key && o.Ref == x.Id {
				items[i].Gone = true
			}
		}
	}
	return items
}

// keys are the keys of what is present.
func (m *model) keys() []string {
	var keys []string
	for _, o := range m.ops {
		keys = put(keys, o.Key)
	}
	return keys
}

// lists are the keys of the lists that have an element that is not erased.
func (m *model) lists() []string {
	var keys []string
	for _, key := range m.keys() {
		for _, x := range m.items(key) {
			if !x.Gone {
				keys = put(keys, key)
			}
		}
	}
	return keys
}

// put puts a string into its place of an ascending list, unless it is there.
func put(texts []string, s string) []string {
	i := 0
	for i < len(texts) && texts[i] < s {
		i++
	}
	if i < len(texts) && texts[i] == s {
		return texts
	}
	return slices.Insert(texts, i, s)
}

// items fails, unless the list of a key has just these elements, and Read and At return those of them that are not erased.
func items(t *testing.T, s *dag.Set, key string, want ...list.Item) {
	t.Helper()
	if got := list.Items(s, key); !slices.Equal(got, want) {
		t.Errorf("Items of %q: %v, not %v", key, got, want)
	}
	var values []string
	n := 0
	for _, x := range want {
		if x.Gone {
			continue
		}
		values = append(values, x.Value)
		if name, e := list.At(s, key, n); name != x.Id || e != api.OK {
			t.Errorf("At %d of %q: %x, %d, not %x", n, key, name, e, x.Id)
		}
		n++
	}
	if got := list.Read(s, key); !slices.Equal(got, values) {
		t.Errorf("Read of %q: %q, not %q", key, got, values)
	}
	for _, n := range []int{n, n + 1, len(want) + 1, -1, -n, -n - 1, -len(want) - 1, math.MaxInt32, math.MinInt32, math.MaxInt, math.MinInt} {
		if n >= 0 && n < len(values) {
			continue
		}
		if name, e := list.At(s, key, n); name != start || e != api.ErrNone {
			t.Errorf("At %d of %q: %x, %d, not ErrNone", n, key, name, e)
		}
	}
}

// inserted fails, unless the list of a key has just the elements of these Inserts, none of which is erased.
func inserted(t *testing.T, s *dag.Set, key string, want ...api.Op) {
	t.Helper()
	items(t, s, key, elements(want...)...)
}

// elements are those of Inserts, not erased.
func elements(ops ...api.Op) []list.Item {
	var items []list.Item
	for _, o := range ops {
		items = append(items, list.Item{Id: op.Name(o), Value: o.Value})
	}
	return items
}

// gone is the element of an Insert, erased.
func gone(o api.Op) list.Item {
	return list.Item{Id: op.Name(o), Value: o.Value, Gone: true}
}

// there is the element of an Insert, not erased.
func there(o api.Op) list.Item {
	return list.Item{Id: op.Name(o), Value: o.Value}
}

// lists fails, unless just these keys have lists with something to read.
func lists(t *testing.T, s *dag.Set, want ...string) {
	t.Helper()
	if got := list.Lists(s); !slices.Equal(got, want) {
		t.Errorf("Lists: %q, not %q", got, want)
	}
}

// like fails, unless each call returns what the model does.
func like(t *testing.T, s *dag.Set, m *model) {
	t.Helper()
	for _, key := range m.keys() {
		items(t, s, key, m.items(key)...)
	}
	for _, key := range []string{"", "none", "k\x00\x00", "a much longer key than there can be"} {
		items(t, s, key)
	}
	lists(t, s, m.lists()...)
}

// universe are so many operations, of a few keys, which build on each other; they refer to elements of each key, to other operations, and to nothing; some have a wrong depth, or Preds that nobody has, or aren't valid.
func universe(chance *row, size int) []api.Op {
	keys, values := []string{"a", "a", "ab"}, []string{"", "b", "bb", "\x00"}
	var ops []api.Op
	for i := range size {
		var preds []api.Op
		for range chance.next(4) {
			if i > 0 {
				o := ops[i-1-chance.next(min(i, 5))]
				if op.Good(o) && !slices.Contains(sorted(preds...), op.Name(o)) {
					preds = append(preds, o)
				}
			}
		}
		ref, key := referred(chance, ops)
		if key == "" || chance.next(8) == 0 {
			key = keys[chance.next(len(keys))]
		}
		o := insert(key, values[chance.next(len(values))], ref, preds...)
		switch {
		case chance.next(4) == 0 && ref != start:
			o = erase(key, ref, preds...)
		case chance.next(10) == 0:
			o = add(key, o.Value, preds...)
		}
		ops = append(ops, spoiltAtTimes(chance, o))
	}
	return ops
}

// referred is what a drawn operation refers to: the beginning, an operation, an Insert most often, or none; and the key of that one.
func referred(chance *row, ops []api.Op) (api.Id, string) {
	if len(ops) == 0 || chance.next(5) == 0 {
		return start, ""
	}
	if chance.next(20) == 0 {
		return filled(byte(1 + chance.next(255))), ""
	}
	for {
		o := ops[len(ops)-1-chance.next(min(len(ops), 10))]
		if chance.next(3) == 0 {
			o = ops[chance.next(len(ops))]
		}
		if o.Kind == api.Insert || chance.next(8) == 0 {
			return op.Name(o), o.Key
		}
	}
}

// spoiltAtTimes is an operation of a drawn author, or now and then one that is refused, or waits for good.
func spoiltAtTimes(chance *row, o api.Op) api.Op {
	o.Author = chance.next(5)
	switch chance.next(80) {
	case 0:
		return deep(o, o.Depth+1+chance.next(2))
	case 1:
		return deep(o, max(2, o.Depth-1))
	case 2:
		return lost(o)
	case 3:
		return by(5, o)
	}
	return o
}
