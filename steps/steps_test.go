package steps_test

import (
	"crypto/sha256"
	"encoding/hex"
	"math"
	"testing"

	"tribunal/api"
	"tribunal/steps"
)

// row is numbers that look like chance, the same ones in each run.
type row uint64

func (r *row) next(below int) int {
	*r = *r*6364136223846793005 + 1442695040888963407
	return int(uint64(*r)>>33) % below
}

func (r *row) elem() api.Elem {
	var x api.Elem
	for i := range x {
		x[i] = byte(r.next(256))
	}
	return x
}

// filled is the element whose bytes are all b.
func filled(b byte) api.Elem {
	var x api.Elem
	for i := range x {
		x[i] = b
	}
	return x
}

// rising is the element of the bytes 0 to 15.
func rising() api.Elem {
	var x api.Elem
	for i := range x {
		x[i] = byte(i)
	}
	return x
}

// place is a place beside the bytes that the chapter asks for.
type place struct {
	p steps.Place
	s string
}

func places() []place {
	return []place{
		{steps.Place{}, "\x00\x00"},
		{steps.Place{Index: 3, Chain: 7}, "\x01\x03\x01\x07"},
		{steps.Place{Index: 7, Chain: 3}, "\x01\x07\x01\x03"},
		{steps.Place{Index: 1}, "\x01\x01\x00"},
		{steps.Place{Chain: 1}, "\x00\x01\x01"},
		{steps.Place{Index: 255, Chain: 34}, "\x01\xff\x01\x22"},
		{steps.Place{Index: 256, Chain: 35}, "\x02\x01\x00\x01\x23"},
		{steps.Place{Index: 1, Chain: 256}, "\x01\x01\x02\x01\x00"},
		{steps.Place{Index: math.MaxInt64, Chain: math.MaxInt64},
			"\x08\x7f\xff\xff\xff\xff\xff\xff\xff\x08\x7f\xff\xff\xff\xff\xff\xff\xff"},
	}
}

// step is the next step as the chapter has it, with the bytes that are hashed written out.
func step(x api.Elem, i int, place string) api.Elem {
	number := "\x01\x00"
	if i > 0 {
		number = "\x02\x01" + string(rune(i))
	}
	s := "\x01\x04\x01\x01s\x01\x10" + string(x[:]) + "\x01" + number + "\x01" + string(rune(len(place))) + place
	d := sha256.Sum256([]byte(s))
	return api.Elem(d[:16])
}

// P3.1: Walk, beside elements that another program computed.
func TestWalkKnown(t *testing.T) {
	const top = math.MaxInt64
	for _, c := range []struct {
		x            api.Elem
		index, chain int
		from, to     int
		want         string
	}{
		{filled(0), 0, 0, 0, 1, "3926c1bd5b44e0c109c2c2d469383607"},
		{filled(0), 0, 0, 0, 15, "b50273c9097a6e435e16ccaeaa05b4bc"},
		{rising(), 3, 7, 4, 5, "0bae3885e6411466b7740c2c412a929b"},
		{rising(), 3, 7, 0, 15, "c47a89bc95dc52b5dcd0d20a3154f8e5"},
		{filled(255), 255, 34, 14, 15, "7f4d9ba92e16491a7443f05a1983506a"},
		{filled(255), 256, 34, 0, 15, "666cfe6ac2e9ff5eff1c8c5d889151a2"},
		{rising(), top, top, 2, 9, "88edbe3edb3cd59476369a8059c7c638"},
	} {
		y := steps.Walk(c.x, steps.Place{Index: c.index, Chain: c.chain}, c.from, c.to)
		if got := hex.EncodeToString(y[:]); got != c.want {
			t.Errorf("%x, %d, %d, from %d to %d: %s, want %s", c.x, c.index, c.chain, c.from, c.to, got, c.want)
		}
	}
}

// P3.1: Walk from each step to each step is the steps between, one after the other; backwards it is nothing.
func TestWalkEachStep(t *testing.T) {
	for _, c := range places() {
		for _, x := range []api.Elem{filled(0), filled(255), rising()} {
			for from := range steps.Last + 1 {
				want := x
				for to := range steps.Last + 1 {
					if to > from {
						want = step(want, to-1, c.s)
					}
					if got := steps.Walk(x, c.p, from, to); got != want {
						t.Errorf("%x, %+v, from %d to %d: %x, want %x", x, c.p, from, to, got, want)
					}
				}
			}
		}
	}
}

// P3.1: a from below 0 is 0, a to above 15 is 15.
func TestWalkBeyondEnds(t *testing.T) {
	x := rising()
	p := steps.Place{Index: 3, Chain: 7}
	for _, from := range []int{-1, -2, -16, -1 << 32, math.MinInt64 + 1, math.MinInt64} {
		for to := range steps.Last + 1 {
			if got, want := steps.Walk(x, p, from, to), steps.Walk(x, p, 0, to); got != want {
				t.Errorf("from %d to %d: %x, want %x", from, to, got, want)
			}
		}
	}
	for _, to := range []int{16, 17, 31, 1 << 32, math.MaxInt64 - 1, math.MaxInt64} {
		for from := range steps.Last + 1 {
			if got, want := steps.Walk(x, p, from, to), steps.Walk(x, p, from, 15); got != want {
				t.Errorf("from %d to %d: %x, want %x", from, to, got, want)
			}
		}
		if got, want := steps.Walk(x, p, -to, to), steps.Walk(x, p, 0, 15); got != want {
			t.Errorf("from %d to %d: %x, want %x", -to, to, got, want)
		}
	}
}

// P3.1: where to is not greater than from, the element itself remains, be the numbers steps or not.
func TestWalkNowhere(t *testing.T) {
	ends := []int{math.MinInt64, math.MinInt64 + 1, -1 << 32, -16, -2, -1, 0, 1, 7, 8, 14, 15, 16, 17, 1 << 32, math.MaxInt64 - 1, math.MaxInt64}
	x := rising()
	p := steps.Place{Index: 3, Chain: 7}
	for i, from := range ends {
		for k, to := range ends {
			nowhere := k <= i || to <= 0 || from >= 15
			if got := steps.Walk(x, p, from, to); (got == x) != nowhere {
				t.Errorf("from %d to %d: %x", from, to, got)
			}
		}
	}
}

// P3.1: a negative index, or chain, is encoded as 0.
func TestWalkNegativePlace(t *testing.T) {
	x := rising()
	for _, n := range []int{-1, -7, -256, math.MinInt64 + 1, math.MinInt64} {
		for _, c := range []struct{ p, want steps.Place }{
			{steps.Place{Index: n, Chain: 7}, steps.Place{Index: 0, Chain: 7}},
			{steps.Place{Index: 3, Chain: n}, steps.Place{Index: 3, Chain: 0}},
			{steps.Place{Index: n, Chain: n}, steps.Place{Index: 0, Chain: 0}},
		} {
			if got, want := steps.Walk(x, c.p, 2, 11), steps.Walk(x, c.want, 2, 11); got != want {
				t.Errorf("%+v: %x, want %x", c.p, got, want)
			}
		}
		if got, want := steps.Walk(x, steps.Place{Index: n, Chain: n}, 0, 1), step(x, 0, "\x00\x00"); got != want {
			t.Errorf("%d: %x, want %x", n, got, want)
		}
	}
}

// P3.1: the element, the step, the index and the chain all play a part: no two of these are the same step.
func TestStepsDiffer(t *testing.T) {
	seen := map[api.Elem]string{}
	for _, x := range []api.Elem{filled(0), filled(1), filled(255), rising()} {
		for _, c := range places() {
			for i := range steps.Last {
				what := hex.EncodeToString(x[:]) + hex.EncodeToString([]byte(c.s)) + string(rune('a'+i))
				y := steps.Walk(x, c.p, i, i+1)
				if other, ok := seen[y]; ok {
					t.Errorf("%s and %s", what, other)
				}
				seen[y] = what
			}
		}
	}
}

// P3.1: a walk hangs on nothing that was asked before it.
func TestWalkKeepsNothing(t *testing.T) {
	x := rising()
	p := steps.Place{Index: 3, Chain: 7}
	first := steps.Walk(x, p, 3, 9)
	steps.Walk(filled(9), steps.Place{Index: 4, Chain: 7}, 0, 15)
	steps.Digits(x)
	if steps.Walk(x, p, 3, 9) != first || x != rising() {
		t.Error("one walk has two ends")
	}
}

// P3.2: a walk is its parts: cut anywhere, at one step or two.
func TestWalkOfParts(t *testing.T) {
	var chance row = 3
	for a := range steps.Last + 1 {
		for b := a; b <= steps.Last; b++ {
			for c := b; c <= steps.Last; c++ {
				x := chance.elem()
				p := steps.Place{Index: chance.next(256), Chain: chance.next(steps.Chains)}
				whole := steps.Walk(x, p, a, c)
				if got := steps.Walk(steps.Walk(x, p, a, b), p, b, c); got != whole {
					t.Errorf("%+v, from %d by %d to %d: %x, want %x", p, a, b, c, got, whole)
				}
			}
		}
	}
}

// P3.2: a walk is its parts, where its ends, or the cut, are beyond the steps that there are.
func TestWalkOfPartsBeyondEnds(t *testing.T) {
	x := rising()
	p := steps.Place{Index: 3, Chain: 7}
	ends := []int{math.MinInt64, -9, -1, 0, 1, 8, 14, 15, 16, 99, math.MaxInt64}
	for i, a := range ends {
		for k, b := range ends[i:] {
			for _, c := range ends[i+k:] {
				whole := steps.Walk(x, p, a, c)
				if got := steps.Walk(steps.Walk(x, p, a, b), p, b, c); got != whole {
					t.Errorf("from %d by %d to %d: %x, want %x", a, b, c, got, whole)
				}
			}
		}
	}
}

// P3.2: a walk is fifteen single steps; in another order, or in another chain, it is another walk.
func TestWalkOfSteps(t *testing.T) {
	x := rising()
	p := steps.Place{Index: 3, Chain: 7}
	up, down, across := x, x, x
	for i := range steps.Last {
		up = steps.Walk(up, p, i, i+1)
		down = steps.Walk(down, p, steps.Last-i-1, steps.Last-i)
		across = steps.Walk(across, steps.Place{Index: 3, Chain: 7 + i}, i, i+1)
	}
	whole := steps.Walk(x, p, 0, steps.Last)
	if up != whole {
		t.Errorf("%x, want %x", up, whole)
	}
	if down == whole || across == whole {
		t.Error("the order, or the place, plays no part")
	}
}
