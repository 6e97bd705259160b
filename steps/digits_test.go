package steps_test

import (
	"testing"

	"tribunal/api"
	"tribunal/steps"
)

// digitsOf is 32 halves that are all the same, and a checksum.
func digitsOf(half, a, b, c int) [steps.Chains]int {
	var d [steps.Chains]int
	for i := range 32 {
		d[i] = half
	}
	d[32], d[33], d[34] = a, b, c
	return d
}

// P3.1: how many chains there are, and which step is the last one.
func TestNumbers(t *testing.T) {
	if steps.Chains != 35 || steps.Last != 15 {
		t.Errorf("%d chains, last step %d", steps.Chains, steps.Last)
	}
}

// P3.1: Digits, for the zero element, the one of all ones, and others whose digits are written out.
func TestDigitsKnown(t *testing.T) {
	for _, c := range []struct {
		x    api.Elem
		want [steps.Chains]int
	}{
		{filled(0x00), digitsOf(0, 1, 14, 0)},
		{filled(0xff), digitsOf(15, 0, 0, 0)},
		{filled(0x77), digitsOf(7, 1, 0, 0)},
		{filled(0x88), digitsOf(8, 0, 14, 0)},
		{filled(0x11), digitsOf(1, 1, 12, 0)},
		{filled(0xee), digitsOf(14, 0, 2, 0)},
		{api.Elem{0x12, 0xff}, [steps.Chains]int{0: 1, 1: 2, 2: 15, 3: 15, 32: 1, 33: 11, 34: 15}},
		{api.Elem{0xf0}, [steps.Chains]int{0: 15, 32: 1, 33: 13, 34: 1}},
		{api.Elem{0x0f}, [steps.Chains]int{1: 15, 32: 1, 33: 13, 34: 1}},
		{api.Elem{15: 0x01}, [steps.Chains]int{31: 1, 32: 1, 33: 13, 34: 15}},
		{
			api.Elem{0x01, 0x23, 0x45, 0x67, 0x89, 0xab, 0xcd, 0xef, 0xfe, 0xdc, 0xba, 0x98, 0x76, 0x54, 0x32, 0x10},
			[steps.Chains]int{
				0, 1, 2, 3, 4, 5, 6, 7, 8, 9, 10, 11, 12, 13, 14, 15,
				15, 14, 13, 12, 11, 10, 9, 8, 7, 6, 5, 4, 3, 2, 1, 0,
				0, 15, 0,
			},
		},
	} {
		if got := steps.Digits(c.x); got != c.want {
			t.Errorf("%x: %v, want %v", c.x, got, c.want)
		}
	}
}

// P3.1: Digits, for each byte at each place: the higher half first, from 0 to 15 each, and what they leave to 15.
func TestDigitsEachByte(t *testing.T) {
	for place := range len(api.Elem{}) {
		for b := range 256 {
			var x api.Elem
			x[place] = byte(b)
			var want [steps.Chains]int
			want[2*place] = b / 16
			want[2*place+1] = b % 16
			left := 480 - b/16 - b%16
			want[32], want[33], want[34] = left/256, left/16%16, left%16
			if got := steps.Digits(x); got != want {
				t.Errorf("%x: %v, want %v", x, got, want)
			}
		}
	}
}

// P3.1: Digits, for elements of all kinds: the halves make the element, the checksum what they leave.
func TestDigitsMakeElement(t *testing.T) {
	var chance row = 5
	for range 2000 {
		x := chance.elem()
		d := steps.Digits(x)
		sum := 256*d[32] + 16*d[33] + d[34]
		var back api.Elem
		for i := range back {
			back[i] = byte(16*d[2*i] + d[2*i+1])
			sum += d[2*i] + d[2*i+1]
		}
		if back != x || sum != 480 {
			t.Errorf("%x: %v is %x, and %d", x, d, back, sum)
		}
		for i, one := range d {
			if one < 0 || one > steps.Last {
				t.Errorf("%x: digit %d is %d", x, i, one)
			}
		}
	}
}

// hasSmaller reports whether a has a smaller digit than b for some chain.
func hasSmaller(a, b [steps.Chains]int) bool {
	for i := range a {
		if a[i] < b[i] {
			return true
		}
	}
	return false
}

// checkPair holds two different elements to P3.2: neither can be reached from the other one by walking on alone.
func checkPair(t *testing.T, x, y api.Elem) {
	t.Helper()
	a, b := steps.Digits(x), steps.Digits(y)
	if !hasSmaller(a, b) || !hasSmaller(b, a) {
		t.Errorf("%x and %x: %v and %v", x, y, a, b)
	}
}

// P3.2: elements that differ in one half, by any number: each has a smaller digit than the other one.
func TestPairsOfOneHalf(t *testing.T) {
	for _, base := range []byte{0x00, 0xff, 0x5a} {
		for half := range 32 {
			shift := 4 * (1 - half%2)
			for one := range 16 {
				for other := range one {
					x, y := filled(base), filled(base)
					x[half/2] = base&^(15<<shift) | byte(one<<shift)
					y[half/2] = base&^(15<<shift) | byte(other<<shift)
					checkPair(t, x, y)
				}
			}
		}
	}
}

// P3.2: elements of which one has no half that is smaller: the checksum has to be.
func TestPairsOfRisenHalves(t *testing.T) {
	var chance row = 7
	for range 5000 {
		x := chance.elem()
		y := x
		for range 1 + chance.next(32) {
			half := chance.next(32)
			shift := 4 * (1 - half%2)
			digit := int(y[half/2]>>shift) & 15
			if digit < 15 {
				y[half/2] += byte((1 + chance.next(15-digit)) << shift)
			}
		}
		if x != y {
			checkPair(t, x, y)
		}
	}
}

// P3.2: elements of one byte that is repeated, which are the checksum's smallest and greatest among them.
func TestPairsOfFilled(t *testing.T) {
	for b := range 256 {
		for c := range b {
			checkPair(t, filled(byte(b)), filled(byte(c)))
		}
	}
}

// P3.2: elements whose sum is the same, and elements by chance.
func TestPairsOfAllKinds(t *testing.T) {
	checkPair(t, api.Elem{0x01}, api.Elem{0x10})
	checkPair(t, api.Elem{0x01}, api.Elem{15: 0x01})
	checkPair(t, api.Elem{0xff}, api.Elem{14: 0xff})
	var chance row = 11
	for range 5000 {
		x, y := chance.elem(), chance.elem()
		if x != y {
			checkPair(t, x, y)
		}
	}
}
