package line_test

import (
	"math"
	"slices"
	"strconv"
	"testing"

	"tribunal/api"
	"tribunal/dag"
	"tribunal/line"
	"tribunal/op"
)

// top and bottom are the greatest and the least number.
const (
	top    = math.MaxInt64
	bottom = math.MinInt64
)

// row is numbers that look like chance, the same ones in each run.
type row uint64

func (r *row) next(below int) int {
	*r = *r*6364136223846793005 + 1442695040888963407
	return int(uint64(*r)>>33) % below
}

// filled is the name whose bytes are all b: that of no operation here.
func filled(b byte) api.Id {
	var x api.Id
	for i := range x {
		x[i] = b
	}
	return x
}

// less tells whether a name is less than another one, byte by byte.
func less(a, b api.Id) bool {
	for i := range a {
		if a[i] != b[i] {
			return a[i] < b[i]
		}
	}
	return false
}

// sorted are names in ascending order, in new memory.
func sorted(names ...api.Id) []api.Id {
	names = slices.Clone(names)
	slices.SortFunc(names, func(a, b api.Id) int {
		switch {
		case less(a, b):
			return -1
		case less(b, a):
			return 1
		}
		return 0
	})
	return names
}

// named are the names of operations, in their order.
func named(list ...api.Op) []api.Id {
	names := make([]api.Id, len(list))
	for i, o := range list {
		names[i] = op.Name(o)
	}
	return names
}

// draft is one that is valid, of this kind, key and value.
func draft(kind int, key, value string) api.Draft {
	d := api.Draft{Kind: kind, Key: key, Value: value}
	if kind == api.Erase {
		d.Value = ""
		copy(d.Ref[:], "\xee"+value)
	}
	return d
}

// made is an operation of a draft whose Preds are these, and whose depth is correct if theirs are.
func made(d api.Draft, preds ...api.Op) api.Op {
	o := api.Op{Draft: d, Depth: 1, Preds: sorted(named(preds...)...)}
	for _, pred := range preds {
		o.Depth = max(o.Depth, pred.Depth+1)
	}
	return o
}

// after is an operation of some value behind these.
func after(value string, preds ...api.Op) api.Op {
	return made(draft(api.Add, "k", value), preds...)
}

// behind is an operation of these Preds and this depth.
func behind(value string, depth int, preds ...api.Id) api.Op {
	return api.Op{Draft: draft(api.Add, "k", value), Depth: depth, Preds: sorted(preds...)}
}

// deep is an operation with another depth.
func deep(o api.Op, depth int) api.Op {
	o.Depth = depth
	return o
}

// first finds an operation, of those that make gives for values, whose name is less than that of another one.
func first(other api.Op, make func(value string) api.Op) api.Op {
	for i := 0; ; i++ {
		if o := make(strconv.Itoa(i)); less(op.Name(o), op.Name(other)) {
			return o
		}
	}
}

// same tells whether two operations are the same; nil and empty Preds are.
func same(a, b api.Op) bool {
	return a.Draft == b.Draft && a.Author == b.Author && a.Depth == b.Depth && slices.Equal(a.Preds, b.Preds)
}

// short are the first bytes of names, for messages.
func short(names []api.Id) []string {
	list := make([]string, len(names))
	for i, name := range names {
		list[i] = strconv.FormatUint(uint64(name[0])<<16|uint64(name[1])<<8|uint64(name[2]), 16)
	}
	return list
}

// filledBy is a set that was given these; it may have refused some.
func filledBy(list ...api.Op) *dag.Set {
	s := dag.New()
	for _, o := range list {
		s.Take(o)
	}
	return s
}

// held are those of a list that are present in a set that was given all of them: the greatest number of them such that with each its Preds are present, and its depth is correct.
func held(list []api.Op) []api.Op {
	depths := map[api.Id]int{}
	var present []api.Op
	for range list {
		for _, o := range list {
			depth, closed := 1, op.Good(o)
			for _, pred := range o.Preds {
				closed = closed && depths[pred] > 0
				depth = max(depth, depths[pred]+1)
			}
			if name := op.Name(o); closed && depth == o.Depth && depths[name] == 0 {
				depths[name] = depth
				present = append(present, o)
			}
		}
	}
	return present
}

// inOrder are operations in their order, in new memory: time after time that one of the least Depth, and of these that one of the least name, of those that are left.
func inOrder(list []api.Op) []api.Op {
	left, names := slices.Clone(list), named(list...)
	var result []api.Op
	for len(left) > 0 {
		least := 0
		for i, o := range left {
			if o.Depth < left[least].Depth || o.Depth == left[least].Depth && less(names[i], names[least]) {
				least = i
			}
		}
		result = append(result, left[least])
		left, names = slices.Delete(left, least, least+1), slices.Delete(names, least, least+1)
	}
	return result
}

// of are those of a row that have this key and one of these kinds.
func of(row []api.Op, key string, kinds []int) []api.Op {
	var list []api.Op
	for _, o := range row {
		for _, kind := range kinds {
			if o.Key == key && o.Kind == kind {
				list = append(list, o)
				break
			}
		}
	}
	return list
}

// keys are the keys of those of a row that have one of these kinds, in ascending order, each once.
func keys(row []api.Op, kinds []int) []string {
	var list []string
	for _, o := range row {
		for _, kind := range kinds {
			if o.Kind == kind && !slices.Contains(list, o.Key) {
				list = append(list, o.Key)
			}
		}
	}
	for i := range list {
		for j := range list[:i] {
			if list[i] < list[j] {
				list[i], list[j] = list[j], list[i]
			}
		}
	}
	return list
}

// rows fails, unless two rows have the same operations.
func rows(t *testing.T, what string, got, want []api.Op) {
	t.Helper()
	if !slices.EqualFunc(got, want, same) {
		t.Errorf("%s: %v (%x), not %v", what, short(named(got...)), got, short(named(want...)))
	}
}

// choices are lists of kinds: each selection of the five, and some with repetitions, another order, and kinds that are none.
func choices() [][]int {
	lists := [][]int{
		{1, 1}, {2, 1}, {5, 4, 3, 2, 1}, {3, 3, 1, 3, 3}, {5, 1, 5},
		{0}, {6}, {-1}, {7, -5}, {bottom}, {top}, {1 << 32, 257, 259}, {bottom, 2, top}, {0, 4}, {6, 5}, {-1, 1, 1 << 32},
	}
	for mask := range 32 {
		var list []int
		for i := range 5 {
			if mask>>i&1 == 1 {
				list = append(list, i+1)
			}
		}
		lists = append(lists, list)
	}
	return lists
}

// like fails, unless each call returns what it should for a set in which these are present.
func like(t *testing.T, s *dag.Set, present []api.Op) {
	t.Helper()
	want := inOrder(present)
	if got := line.Order(s); !slices.Equal(got, named(want...)) {
		t.Errorf("Order: %v, not %v", short(got), short(named(want...)))
	}
	rows(t, "Row", line.Row(s), want)
	known := append(keys(want, []int{1, 2, 3, 4, 5}), "", "none", "k\x00")
	for _, kinds := range choices() {
		for _, key := range known {
			rows(t, "Of", line.Of(s, key, kinds...), of(want, key, kinds))
		}
		if got, want := line.Keys(s, kinds...), keys(want, kinds); !slices.Equal(got, want) {
			t.Errorf("Keys of %v: %q, not %q", kinds, got, want)
		}
	}
}

// universe are so many operations of all kinds and of a few keys, which build on each other; some have a wrong depth, or Preds that nobody has, or aren't valid.
func universe(chance *row, size int) []api.Op {
	names := []string{"a", "ab", "b", "\x00", "\xff", "a\x00"}
	var list []api.Op
	for i := range size {
		var preds []api.Op
		for range chance.next(4) {
			if i > 0 {
				o := list[i-1-chance.next(min(i, 12))]
				if op.Good(o) && !slices.Contains(named(preds...), op.Name(o)) {
					preds = append(preds, o)
				}
			}
		}
		o := made(draft(1+chance.next(5), names[chance.next(len(names))], strconv.Itoa(i)), preds...)
		o.Author = chance.next(5)
		switch chance.next(20) {
		case 0:
			o.Depth += 1 + chance.next(2)
		case 1:
			o.Depth = max(2, o.Depth-1)
		case 2:
			o.Depth, o.Preds = 2+chance.next(9), sorted(append(o.Preds, filled(byte(i)))...)
		case 3:
			o.Author = 5
		}
		list = append(list, o)
	}
	return list
}
