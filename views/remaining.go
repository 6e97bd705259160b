package views

import (
	"tribunal/api"
	"tribunal/dag"
	"tribunal/line"
)

// width is how many members one sweep decides on: the bits of a word.
const width = 64

// member is a value in the set of a key.
type member struct{ key, value string }

// placed is an operation in its place in the order of layer 11.
type placed struct {
	api.Op
	preds   []int // the places of its Preds, all of them before its own
	number  int   // of its key and value as a member that is dropped somewhere, from 1; 0: it is none
	dropped bool  // it is an Add in the past of a Drop of the same member
}

// remaining returns the wanted Adds that are in the past of no Drop of the same member.
func remaining(s *dag.Set, wanted func(api.Op) bool) []api.Op {
	row := arranged(s)
	members := number(row, wanted)
	for first := 1; first <= members; first += width {
		sweep(row, first)
	}
	var list []api.Op
	for _, o := range row {
		if o.Kind == api.Add && !o.dropped && wanted(o.Op) {
			list = append(list, o.Op)
		}
	}
	return list
}

// arranged returns the operations that are present, in their order.
func arranged(s *dag.Set) []placed {
	places := map[api.Id]int{}
	for i, name := range line.Order(s) {
		places[name] = i
	}
	var row []placed
	for _, o := range line.Row(s) {
		preds := make([]int, len(o.Preds))
		for i, pred := range o.Preds {
			preds[i] = places[pred]
		}
		row = append(row, placed{Op: o, preds: preds})
	}
	return row
}

// number numbers the members of which there is a wanted Drop, and returns how many there are.
func number(row []placed, wanted func(api.Op) bool) int {
	numbers := map[member]int{}
	for _, o := range row {
		m := member{o.Key, o.Value}
		if o.Kind == api.Drop && wanted(o.Op) && numbers[m] == 0 {
			numbers[m] = len(numbers) + 1
		}
	}
	for i, o := range row {
		row[i].number = numbers[member{o.Key, o.Value}]
	}
	return len(numbers)
}

// sweep decides which Adds of the members from number first on are dropped: all their Drops at once, so that many of them don't each search the whole past.
func sweep(row []placed, first int) {
	drops := make([]uint64, len(row)) // by place, the members that a Drop behind it, or in it, drops
	// Backwards, as each operation comes after its past: all that is behind a place was there first.
	for i := len(row) - 1; i >= 0; i-- {
		o := &row[i]
		own := bit(o.number - first)
		switch o.Kind {
		case api.Add:
			o.dropped = o.dropped || drops[i]&own != 0
		case api.Drop:
			drops[i] |= own
		}
		for _, pred := range o.preds {
			drops[pred] |= drops[i]
		}
	}
}

// bit returns the word whose bit i alone is set; 0, if there is no such bit.
func bit(i int) uint64 {
	if i < 0 || i >= width {
		return 0
	}
	return 1 << i
}
