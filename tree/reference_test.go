package tree_test

import (
	"crypto/sha256"
	"encoding/hex"
	"math"

	"tribunal/api"
	"tribunal/pack"
)

// top and bottom are the greatest and the least number.
const (
	top    = math.MaxInt64
	bottom = math.MinInt64
)

// row is numbers that look like chance, the same ones in each run.
type row uint64

func (r *row) next(below int) int {
	*r = *r*6364136223846793005 + 1442695040888963407
	return int(uint64(*r)>>33) % below
}

// elems are so many elements, which differ.
func (r *row) elems(count int) []api.Elem {
	list := make([]api.Elem, count)
	for i := range list {
		for k := range list[i] {
			list[i][k] = byte(r.next(256))
		}
	}
	return list
}

// filled is the element whose bytes are all b.
func filled(b int) api.Elem {
	var x api.Elem
	for i := range x {
		x[i] = byte(b)
	}
	return x
}

// rising is the element of the bytes 0 to 15.
func rising() api.Elem {
	return api.Elem{0, 1, 2, 3, 4, 5, 6, 7, 8, 9, 10, 11, 12, 13, 14, 15}
}

// numbered are so many elements: the first one is filled with from, each other one with the next number.
func numbered(from, count int) []api.Elem {
	list := make([]api.Elem, count)
	for i := range list {
		list[i] = filled(from + i)
	}
	return list
}

// equal are so many elements, which are all x.
func equal(x api.Elem, count int) []api.Elem {
	list := make([]api.Elem, count)
	for i := range list {
		list[i] = x
	}
	return list
}

func hexOf(x api.Elem) string {
	return hex.EncodeToString(x[:])
}

// counts are the numbers of leaves that a tree can have.
func counts() []int {
	return []int{1, 2, 4, 8, 16, 32, 64, 128, 256}
}

// others are numbers of leaves that a tree can't have.
func others() []int {
	list := []int{0, 511, 512, 513, 768, 1000, 1024, 4096, 65536}
	for count := 3; count < 260; count++ {
		if count&(count-1) != 0 {
			list = append(list, count)
		}
	}
	return list
}

// leavesOfAllKinds are the leaves of trees of so many: leaves that differ, and leaves of which some, or all, are equal.
func leavesOfAllKinds(count int) [][]api.Elem {
	var chance row = 7
	pairs := make([]api.Elem, count)
	halves := make([]api.Elem, count)
	for i := range count {
		pairs[i] = filled(i % 2)
		halves[i] = filled(i % (count/2 + 1))
	}
	return [][]api.Elem{
		chance.elems(count), numbered(0, count), equal(rising(), count), equal(api.Elem{}, count), equal(filled(0xff), count), pairs, halves,
	}
}

// parentOf is a parent as the chapter has it, by the library's SHA-256.
func parentOf(left, right api.Elem, level, index int) api.Elem {
	both := append(append([]byte{}, left[:]...), right[:]...)
	d := sha256.Sum256([]byte(pack.List("n", string(both), pack.Num(level), pack.Num(index))))
	return api.Elem(d[:16])
}

// elementOf is one element of a tree: the one of an index, at a level.
func elementOf(leaves []api.Elem, level, index int) api.Elem {
	if level == 0 {
		return leaves[index]
	}
	left := elementOf(leaves, level-1, 2*index)
	right := elementOf(leaves, level-1, 2*index+1)
	return parentOf(left, right, level, index)
}

// heightOf is the last level of a tree of so many leaves.
func heightOf(count int) int {
	height := 0
	for ; count > 1; count /= 2 {
		height++
	}
	return height
}

// pathOf is a leaf's path as the chapter has it.
func pathOf(leaves []api.Elem, at int) []api.Elem {
	var path []api.Elem
	for level := range heightOf(len(leaves)) {
		sibling := at + 1
		if at%2 == 1 {
			sibling = at - 1
		}
		path = append(path, elementOf(leaves, level, sibling))
		at /= 2
	}
	return path
}

// halved is half of a number, rounded down, and whether it was odd.
func halved(n int) (int, bool) {
	switch {
	case n%2 == 0:
		return n / 2, false
	case n < 0:
		return (n - 1) / 2, true
	}
	return n / 2, true
}

// climbOf is what Climb makes of a path as the chapter has it.
func climbOf(x api.Elem, at int, path []api.Elem) api.Elem {
	for passed, sibling := range path {
		above, odd := halved(at)
		if odd {
			x = parentOf(sibling, x, passed+1, above)
		} else {
			x = parentOf(x, sibling, passed+1, above)
		}
		at = above
	}
	return x
}
