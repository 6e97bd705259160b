package views_test

import (
	"slices"
	"strconv"
	"testing"

	"tribunal/api"
	"tribunal/dag"
	"tribunal/op"
	"tribunal/views"
)

// row is numbers that look like chance, the same ones in each run.
type row uint64

func (r *row) next(below int) int {
	*r = *r*6364136223846793005 + 1442695040888963407
	return int(uint64(*r)>>33) % below
}

// filled is the name whose bytes are all b: that of no operation here.
func filled(b byte) api.Id {
	var x api.Id
	for i := range x {
		x[i] = b
	}
	return x
}

// less tells whether a name is less than another one, byte by byte.
func less(a, b api.Id) bool {
	for i := range a {
		if a[i] != b[i] {
			return a[i] < b[i]
		}
	}
	return false
}

// sorted are the names of operations in ascending order.
func sorted(list ...api.Op) []api.Id {
	var names []api.Id
	for _, o := range list {
		names = append(names, op.Name(o))
	}
	slices.SortFunc(names, func(a, b api.Id) int {
		switch {
		case less(a, b):
			return -1
		case less(b, a):
			return 1
		}
		return 0
	})
	return names
}

// made is an operation whose Preds are these, and whose depth is correct if theirs are; an Erase refers to its value.
func made(kind int, key, value string, preds ...api.Op) api.Op {
	o := api.Op{Draft: api.Draft{Kind: kind, Key: key, Value: value}, Depth: 1, Preds: sorted(preds...)}
	if kind == api.Erase {
		o.Value = ""
		copy(o.Ref[:], "\xee"+value)
	}
	for _, pred := range preds {
		o.Depth = max(o.Depth, pred.Depth+1)
	}
	return o
}

// add, drop and set are operations behind others.
func add(key, value string, preds ...api.Op) api.Op {
	return made(api.Add, key, value, preds...)
}

func drop(key, value string, preds ...api.Op) api.Op {
	return made(api.Drop, key, value, preds...)
}

func set(key, value string, preds ...api.Op) api.Op {
	return made(api.Set, key, value, preds...)
}

// by is an operation of another author, with another name therefore.
func by(author int, o api.Op) api.Op {
	o.Author = author
	return o
}

// deep is an operation with another depth.
func deep(o api.Op, depth int) api.Op {
	o.Depth = depth
	return o
}

// lost is an operation that waits for one that never comes.
func lost(o api.Op) api.Op {
	o.Preds, o.Depth = []api.Id{filled(0xff)}, o.Depth+1
	return o
}

// nameBelow finds an operation, of those that make gives for numbers, whose name is below, or is not below, that of another one.
func nameBelow(is bool, other api.Op, make func(i int) api.Op) api.Op {
	for i := 0; ; i++ {
		if o := make(i); less(op.Name(o), op.Name(other)) == is {
			return o
		}
	}
}

// filledBy is a set that was given these; it may have refused some.
func filledBy(list ...api.Op) *dag.Set {
	s := dag.New()
	for _, o := range list {
		s.Take(o)
	}
	return s
}

// held are those of a list that are present in a set that was given all of them: the greatest number of them such that with each its Preds are present, and its depth is correct.
func held(list []api.Op) []api.Op {
	depths := map[api.Id]int{}
	var present []api.Op
	for size := -1; size < len(present); {
		size = len(present)
		for _, o := range list {
			depth, closed := 1, op.Good(o)
			for _, pred := range o.Preds {
				closed = closed && depths[pred] > 0
				depth = max(depth, depths[pred]+1)
			}
			if name := op.Name(o); closed && depth == o.Depth && depths[name] == 0 {
				depths[name] = depth
				present = append(present, o)
			}
		}
	}
	return present
}

// model is what is present, and the past of each, step by step from Pred to Pred.
type model struct {
	list  []api.Op
	names []api.Id
	past  map[api.Id]map[api.Id]bool
}

// modelOf is the model of a set that was given these.
func modelOf(list []api.Op) *model {
	m := &model{list: held(list), past: map[api.Id]map[api.Id]bool{}}
	preds := map[api.Id][]api.Id{}
	for _, o := range m.list {
		name := op.Name(o)
		m.names = append(m.names, name)
		preds[name] = o.Preds
	}
	for _, name := range m.names {
		past := map[api.Id]bool{}
		var walk func(name api.Id)
		walk = func(name api.Id) {
			for _, pred := range preds[name] {
				if !past[pred] {
					past[pred] = true
					walk(pred)
				}
			}
		}
		walk(name)
		m.past[name] = past
	}
	return m
}

// contains tells whether the set of a key contains a value, in the chapter's words.
func (m *model) contains(key, value string) bool {
	for i, a := range m.list {
		if a.Kind != api.Add || a.Key != key || a.Value != value {
			continue
		}
		dropped := false
		for j, d := range m.list {
			if d.Kind == api.Drop && d.Key == key && d.Value == value && m.past[m.names[j]][m.names[i]] {
				dropped = true
			}
		}
		if !dropped {
			return true
		}
	}
	return false
}

// put puts a string into its place of an ascending list, unless it is there.
func put(list []string, s string) []string {
	i := 0
	for i < len(list) && list[i] < s {
		i++
	}
	if i < len(list) && list[i] == s {
		return list
	}
	return slices.Insert(list, i, s)
}

func (m *model) members(key string) []string {
	var list []string
	for _, o := range m.list {
		if o.Key == key && m.contains(key, o.Value) {
			list = put(list, o.Value)
		}
	}
	return list
}

func (m *model) value(key string) (string, bool) {
	last := -1
	for i, o := range m.list {
		if o.Kind != api.Set || o.Key != key {
			continue
		}
		if last < 0 || o.Depth > m.list[last].Depth || o.Depth == m.list[last].Depth && less(m.names[last], m.names[i]) {
			last = i
		}
	}
	if last < 0 {
		return "", false
	}
	return m.list[last].Value, true
}

func (m *model) sets() []string {
	var list []string
	for _, o := range m.list {
		if m.contains(o.Key, o.Value) {
			list = put(list, o.Key)
		}
	}
	return list
}

func (m *model) registers() []string {
	var list []string
	for _, o := range m.list {
		if o.Kind == api.Set {
			list = put(list, o.Key)
		}
	}
	return list
}

// members fails, unless the set of a key has just these values, in this order.
func members(t *testing.T, s *dag.Set, key string, want ...string) {
	t.Helper()
	if got := views.Members(s, key); !slices.Equal(got, want) {
		t.Errorf("Members of %q: %q, not %q", key, got, want)
	}
}

// value fails, unless the register of a key has just this value, or none.
func value(t *testing.T, s *dag.Set, key, want string, is bool) {
	t.Helper()
	if got, gotIs := views.Value(s, key); got != want || gotIs != is {
		t.Errorf("Value of %q: %q, %v, not %q, %v", key, got, gotIs, want, is)
	}
}

// sets fails, unless just these keys have sets that are not empty.
func sets(t *testing.T, s *dag.Set, want ...string) {
	t.Helper()
	if got := views.Sets(s); !slices.Equal(got, want) {
		t.Errorf("Sets: %q, not %q", got, want)
	}
}

// registers fails, unless there is a Set for just these keys.
func registers(t *testing.T, s *dag.Set, want ...string) {
	t.Helper()
	if got := views.Registers(s); !slices.Equal(got, want) {
		t.Errorf("Registers: %q, not %q", got, want)
	}
}

// keysOf are the keys of a list, and some that it doesn't have.
func keysOf(list []api.Op) []string {
	keys := []string{"", "none", "k\x00\x00", "a much longer key than there can be"}
	for _, o := range list {
		keys = put(keys, o.Key)
	}
	return keys
}

// like fails, unless each call returns what the model does.
func like(t *testing.T, s *dag.Set, m *model) {
	t.Helper()
	for _, key := range keysOf(m.list) {
		members(t, s, key, m.members(key)...)
		want, is := m.value(key)
		value(t, s, key, want, is)
	}
	sets(t, s, m.sets()...)
	registers(t, s, m.registers()...)
}

// universe are so many operations of all kinds, of a few keys and values, which build on each other; some have a wrong depth, or Preds that nobody has, or aren't valid.
func universe(chance *row, size int) []api.Op {
	keys, values := []string{"a", "ab"}, []string{"", "b", "bb", "\x00"}
	kinds := []int{api.Add, api.Add, api.Add, api.Add, api.Drop, api.Drop, api.Drop, api.Set, api.Set, api.Insert, api.Erase}
	var list []api.Op
	for i := range size {
		key, value := keys[chance.next(len(keys))], values[chance.next(len(values))]
		var preds []api.Op
		for range chance.next(4) {
			if i > 0 {
				o := list[i-1-chance.next(min(i, 5))]
				if op.Good(o) && !slices.Contains(sorted(preds...), op.Name(o)) {
					preds = append(preds, o)
					// So that more of the Drops drop something.
					key, value = o.Key, o.Value
				}
			}
		}
		list = append(list, spoiltAtTimes(chance, made(kinds[chance.next(len(kinds))], key, value, preds...)))
	}
	return list
}

// spoiltAtTimes is an operation of a drawn author, or now and then one that is refused, or waits for good.
func spoiltAtTimes(chance *row, o api.Op) api.Op {
	o.Author = chance.next(5)
	switch chance.next(80) {
	case 0:
		return deep(o, o.Depth+1+chance.next(2))
	case 1:
		return deep(o, max(2, o.Depth-1))
	case 2:
		return lost(o)
	case 3:
		return by(5, o)
	}
	return o
}

// numbered are so many strings that differ, in ascending order.
func numbered(size int) []string {
	list := make([]string, size)
	for i := range list {
		list[i] = strconv.Itoa(100000 + i)
	}
	return list
}
