package list

import (
	"slices"

	"tribunal/api"
)

// pieces are what the operations of a key say of its list.
type pieces struct {
	after map[api.Id][]Item   // what was inserted after each element, in layer 11's order; after the zero name: at the beginning
	gone  map[api.Id]struct{} // what was erased, whether it is an element or not
}

func newPieces() *pieces {
	return &pieces{map[api.Id][]Item{}, map[api.Id]struct{}{}}
}

// put adds what one more operation says.
func (p *pieces) put(name api.Id, o api.Op) {
	switch o.Kind {
	case api.Insert:
		p.after[o.Ref] = append(p.after[o.Ref], Item{Id: name, Value: o.Value})
	case api.Erase:
		p.gone[o.Ref] = struct{}{}
	}
}

// items returns the elements in their order. Those that still have to be put there are on a stack, the next one on its top: a list may be longer than calls can be nested.
func (p *pieces) items() []Item {
	var list []Item
	stack := slices.Clone(p.after[api.Id{}])
	for len(stack) > 0 {
		item := stack[len(stack)-1]
		_, gone := p.gone[item.Id]
		item.Gone = gone
		list = append(list, item)
		stack = append(stack[:len(stack)-1], p.after[item.Id]...)
	}
	return list
}
