package once_test

import (
	"encoding/hex"
	"strings"
	"testing"

	"tribunal/api"
	"tribunal/once"
)

// checkMeet holds what Meet makes of 560 bytes to the chapter's words, and tells whether it is the wanted public key.
func checkMeet(t *testing.T, sig string, index int, d api.Elem, leaf api.Elem) bool {
	t.Helper()
	got, e := once.Meet(sig, index, d)
	if e != api.OK {
		t.Errorf("%d, %x: error %d", index, d, e)
	}
	if want := metOf(sig, index, d); string(got[:]) != want {
		t.Errorf("%d, %x: %x, want %x", index, d, got, want)
	}
	return got == leaf
}

// P4.1: Meet, beside elements that another program computed, for bytes that nobody signed.
func TestMeetKnown(t *testing.T) {
	zeros, ones := strings.Repeat("\x00", 560), strings.Repeat("\xff", 560)
	for _, c := range []struct {
		sig   string
		index int
		d     api.Elem
		want  string
	}{
		{zeros, 0, filled(0), "6515da2403eb945b6522b49f8d984e77"},
		{ones, 0, filled(0), "74a1e0ff5b9d51014dc3b08bf2ef7bc7"},
		{zeros, 5, filled(0xff), "24fe6f5be20c94fa39f4e7c589a3d90d"},
		{zeros, 256, rising(), "6fe9b3b81df66b78d191d73d7c3e70dd"},
		{zeros, top, rising(), "047cbae42e072c74cdcb7cdce5c0ad2e"},
	} {
		x, e := once.Meet(c.sig, c.index, c.d)
		if got := hex.EncodeToString(x[:]); e != api.OK || got != c.want {
			t.Errorf("%.1x.., %d, %x: %s, %d, want %s", c.sig, c.index, c.d, got, e, c.want)
		}
	}
}

// P4.1: Meet of bytes that are no signature is what the chapter computes, and no public key of the seed.
func TestMeetOfAnyBytes(t *testing.T) {
	var chance row = 13
	for _, index := range indices() {
		leaf := once.Leaf("seed", index)
		for _, d := range append(elements(), chance.elem()) {
			if checkMeet(t, chance.text(560), index, d, leaf) {
				t.Errorf("%d, %x: bytes by chance are a signature", index, d)
			}
		}
	}
}

// P4.1: Meet returns ErrForm, and the zero element, for all lengths but 560.
func TestMeetOfOtherLengths(t *testing.T) {
	d := rising()
	sig := once.Sign("seed", 5, d)
	double := sig + sig
	sizes := []int{1008, 1119, 1120}
	for size := range 600 {
		sizes = append(sizes, size)
	}
	for _, size := range sizes {
		for _, s := range []string{double[:size], strings.Repeat("\x00", size)} {
			got, e := once.Meet(s, 5, d)
			if size == 560 {
				if e != api.OK || string(got[:]) != metOf(s, 5, d) {
					t.Errorf("%d bytes: %x, %d", size, got, e)
				}
			} else if e != api.ErrForm || got != (api.Elem{}) {
				t.Errorf("%d bytes: %x, %d", size, got, e)
			}
		}
	}
	for _, s := range []string{"", sig[1:], sig[:559], sig + "\x00", "\x00" + sig, strings.Repeat("s", 1<<18), strings.Repeat("s", 1<<18+1)} {
		for _, index := range []int{-1, 0, 5, top} {
			if got, e := once.Meet(s, index, d); e != api.ErrForm || got != (api.Elem{}) {
				t.Errorf("%d bytes, %d: %x, %d", len(s), index, got, e)
			}
		}
	}
}

// P4.2: Meet of each signature is the public key: for all seeds, indices and elements.
func TestMeetOfSignature(t *testing.T) {
	var chance row = 17
	for _, seed := range seeds() {
		for _, index := range append(indices(), -1) {
			leaf := once.Leaf(seed, index)
			for _, d := range append(elements(), chance.elem()) {
				if got, e := once.Meet(once.Sign(seed, index, d), index, d); e != api.OK || got != leaf {
					t.Errorf("%q, %d, %x: %x, %d, want %x", seed, index, d, got, e, leaf)
				}
			}
		}
	}
}

// P4.2: Meet of the signature of each element that has one byte alone, at each place.
func TestMeetOfEachHalf(t *testing.T) {
	leaf := once.Leaf("seed", 5)
	for place := range 16 {
		for digit := range 16 {
			for _, b := range []byte{byte(digit), byte(16 * digit), byte(17 * digit)} {
				var d api.Elem
				d[place] = b
				if got, e := once.Meet(once.Sign("seed", 5, d), 5, d); e != api.OK || got != leaf {
					t.Errorf("%x: %x, %d, want %x", d, got, e, leaf)
				}
			}
		}
	}
}

// P4.1: Meet of another element than was signed: what the chapter computes, and not the public key.
func TestMeetOfOtherElement(t *testing.T) {
	d := rising()
	sig, leaf := once.Sign("seed", 5, d), once.Leaf("seed", 5)
	for bit := range 128 {
		other := d
		other[bit/8] ^= 1 << (bit % 8)
		if checkMeet(t, sig, 5, other, leaf) {
			t.Errorf("%x has the signature of %x", other, d)
		}
	}
	for _, one := range elements() {
		for _, other := range elements() {
			if checkMeet(t, once.Sign("seed", 5, one), 5, other, leaf) != (one == other) {
				t.Errorf("%x has the signature of %x, or none has", other, one)
			}
		}
	}
}

// P4.1: Meet for another index than was signed for: what the chapter computes, and neither index's public key.
func TestMeetOfOtherIndex(t *testing.T) {
	d := rising()
	for _, one := range indices() {
		sig := once.Sign("seed", one, d)
		for _, other := range indices() {
			leaf := once.Leaf("seed", other)
			if checkMeet(t, sig, other, d, leaf) != (one == other) {
				t.Errorf("the signature of %d is that of %d, or none is", one, other)
			}
			if got, _ := once.Meet(sig, other, d); one != other && got == once.Leaf("seed", one) {
				t.Errorf("the signature of %d is met for %d", one, other)
			}
		}
	}
}

// P4.1: a signature by another seed, with a byte that is changed, or with its elements moved, is not met.
func TestMeetOfChangedSignature(t *testing.T) {
	d := rising()
	sig, leaf := once.Sign("seed", 5, d), once.Leaf("seed", 5)
	for at := range len(sig) {
		changed := sig[:at] + string([]byte{sig[at] ^ 0x80}) + sig[at+1:]
		if checkMeet(t, changed, 5, d, leaf) {
			t.Errorf("byte %d plays no part", at)
		}
	}
	for _, other := range []string{once.Sign("deed", 5, d), once.Sign("", 5, d), sig[16:] + sig[:16], sig[544:] + sig[:544]} {
		if checkMeet(t, other, 5, d, leaf) {
			t.Errorf("%x is a signature", other)
		}
	}
}
