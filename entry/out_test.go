package entry_test

import (
	"slices"
	"strings"
	"testing"

	"tribunal/api"
	"tribunal/entry"
)

// outs are outputs with masks and payloads that can be, and that can't.
func outs() []api.Out {
	var list []api.Out
	for _, mask := range []int{bottom, -1, 0, 1, 5, 16, 31, 32, 63, 256, top} {
		for _, size := range []int{0, 1, 2048, 2049, 5000} {
			list = append(list, api.Out{Mask: mask, Payload: strings.Repeat("p", size)})
		}
	}
	return list
}

// P15.1: Out is the entry Send with this mask and this payload, also where that is not valid; it is valid just if both can be.
func TestOut(t *testing.T) {
	for _, o := range outs() {
		want := api.Entry{Kind: 3, Mask: o.Mask, Payload: o.Payload}
		if got := entry.Out(o); got != want {
			t.Errorf("%s: %s", told(o), told(got))
		}
		if can := o.Mask >= 1 && o.Mask <= 31 && len(o.Payload) <= 2048; entry.Good(entry.Out(o)) != can {
			t.Errorf("%s: %v", told(o), !can)
		}
	}
}

// P15.1: Outs of none, one and several outputs: their entries, in order, also of equal ones.
func TestOuts(t *testing.T) {
	if got := entry.Outs(); len(got) != 0 {
		t.Errorf("none: %v", got)
	}
	all := outs()
	for count := range len(all) + 1 {
		var want []api.Entry
		for _, o := range all[:count] {
			want = append(want, api.Entry{Kind: 3, Mask: o.Mask, Payload: o.Payload})
		}
		if got := entry.Outs(all[:count]...); !slices.Equal(got, want) {
			t.Errorf("%d outputs: %d entries", count, len(got))
		}
	}
	a, b := api.Out{Mask: 2, Payload: "a"}, api.Out{Mask: 1, Payload: "b"}
	x, y := api.Entry{Kind: 3, Mask: 2, Payload: "a"}, api.Entry{Kind: 3, Mask: 1, Payload: "b"}
	if got := entry.Outs(a, b, a, a); !slices.Equal(got, []api.Entry{x, y, x, x}) {
		t.Errorf("%v", got)
	}
}
