package dag

import (
	"tribunal/api"
	"tribunal/op"
)

// queue is a heap of names, for container/heap: the least one comes first.
type queue []api.Id

// Len returns the number of names.
func (q queue) Len() int {
	return len(q)
}

// Less tells whether name i comes before name j.
func (q queue) Less(i, j int) bool {
	return op.Compare(q[i], q[j]) < 0
}

// Swap swaps the names i and j.
func (q queue) Swap(i, j int) {
	q[i], q[j] = q[j], q[i]
}

// Push appends a name.
func (q *queue) Push(name any) {
	*q = append(*q, name.(api.Id))
}

// Pop removes the last name, and returns it.
func (q *queue) Pop() any {
	last := len(*q) - 1
	name := (*q)[last]
	*q = (*q)[:last]
	return name
}
