package keys_test

import (
	"crypto/sha256"
	"encoding/hex"
	"math"
	"strings"
	"testing"

	"tribunal/api"
	"tribunal/keys"
)

// top and bottom are the greatest and the least number.
const (
	top    = math.MaxInt64
	bottom = math.MinInt64
)

// row is numbers that look like chance, the same ones in each run.
type row uint64

func (r *row) next(below int) int {
	*r = *r*6364136223846793005 + 1442695040888963407
	return int(uint64(*r)>>33) % below
}

func (r *row) text(size int) string {
	b := make([]byte, size)
	for i := range b {
		b[i] = byte(r.next(256))
	}
	return string(b)
}

// texts are so many texts of an element's size.
func (r *row) texts(count int) []string {
	list := make([]string, count)
	for i := range list {
		list[i] = r.text(16)
	}
	return list
}

// filled is the element whose bytes are all b.
func filled(b byte) api.Elem {
	var x api.Elem
	for i := range x {
		x[i] = b
	}
	return x
}

// rising is the element of the bytes 0 to 15.
func rising() api.Elem {
	return api.Elem{0, 1, 2, 3, 4, 5, 6, 7, 8, 9, 10, 11, 12, 13, 14, 15}
}

func hexOf(s string) string {
	return hex.EncodeToString([]byte(s))
}

// number is a number's encoding as the chapters have it.
func number(n int) string {
	s := ""
	for n > 0 {
		s = string([]byte{byte(n % 256)}) + s
		n /= 256
	}
	return string([]byte{byte(len(s))}) + s
}

// half is the first half of the digest of a list's bytes, by the library's SHA-256.
func half(list ...string) string {
	s := number(len(list))
	for _, one := range list {
		s += number(len(one)) + one
	}
	d := sha256.Sum256([]byte(s))
	return string(d[:16])
}

// walked is the walk of a chain from one step to another one.
func walked(x string, index, chain, from, to int) string {
	for step := from; step < to; step++ {
		x = half("s", x, number(step), number(index)+number(chain))
	}
	return x
}

// reached is the elements of all chains, each at its step.
func reached(seed string, index int, to []int) string {
	s := ""
	for chain, step := range to {
		s += walked(half("k", seed, number(index), number(chain)), index, chain, 0, step)
	}
	return s
}

// leafOf is the public key of an index.
func leafOf(seed string, index int) string {
	ends := make([]int, 35)
	for chain := range ends {
		ends[chain] = 15
	}
	return half("l", reached(seed, index, ends), number(index))
}

// digitsOf is the 35 digits of an element.
func digitsOf(d string) []int {
	var digits []int
	left := 480
	for _, b := range []byte(d) {
		high, low := int(b)/16, int(b)%16
		digits = append(digits, high, low)
		left -= high + low
	}
	return append(digits, left/256, left/16%16, left%16)
}

// halved is half of a number, rounded down, and whether it was odd.
func halved(n int) (int, bool) {
	switch {
	case n%2 == 0:
		return n / 2, false
	case n < 0:
		return (n - 1) / 2, true
	}
	return n / 2, true
}

// climbed is what results from a leaf, its index and its path.
func climbed(x string, at int, path []string) string {
	for passed, sibling := range path {
		above, odd := halved(at)
		both := x + sibling
		if odd {
			both = sibling + x
		}
		x = half("n", both, number(passed+1), number(above))
		at = above
	}
	return x
}

// levelsOf are the levels of the tree of a seed's keys, from the leaves to the root.
func levelsOf(seed string, height int) [][]string {
	var level []string
	for index := range 1 << height {
		level = append(level, leafOf(seed, index))
	}
	all := [][]string{level}
	for passed := range height {
		var above []string
		for i := range len(level) / 2 {
			above = append(above, half("n", level[2*i]+level[2*i+1], number(passed+1), number(i)))
		}
		all = append(all, above)
		level = above
	}
	return all
}

// rootOf is the root of a tree's levels.
func rootOf(levels [][]string) string {
	return levels[len(levels)-1][0]
}

// pathOf is the path of a leaf in a tree's levels.
func pathOf(levels [][]string, index int) []string {
	var path []string
	for _, level := range levels[:len(levels)-1] {
		above, odd := halved(index)
		if odd {
			path = append(path, level[index-1])
		} else {
			path = append(path, level[index+1])
		}
		index = above
	}
	return path
}

// digestOf is the signed digest of a text as the chapter has it.
func digestOf(root string, index int, text string) string {
	return half("text", root, number(index), text)
}

// signatureOf is the signature of a text as the chapter has it, for keys with that root.
func signatureOf(seed, root string, index int, text string, path []string) string {
	return reached(seed, index, digitsOf(digestOf(root, index, text))) + strings.Join(path, "")
}

// crafted is the root, and the signature of a text by an index, of a tree whose other elements are these siblings:
// it may be as high, and its index may be as it likes, and all but the limits is right.
func crafted(seed string, index int, text string, path []string) (api.Elem, string) {
	root := climbed(leafOf(seed, index), index, path)
	return api.Elem([]byte(root)), signatureOf(seed, root, index, text, path)
}

// made is the keys of a seed and a height that are valid.
func made(t *testing.T, seed string, height int) *keys.Keys {
	t.Helper()
	k, e := keys.New(seed, height)
	if e != api.OK || k == nil {
		t.Fatalf("%q, %d: error %d", seed, height, e)
	}
	return k
}

// signed is the signature of a text by an index that is there.
func signed(t *testing.T, k *keys.Keys, index int, text string) string {
	t.Helper()
	sig, e := k.Sign(index, text)
	if e != api.OK {
		t.Fatalf("%d, %.20q: error %d", index, text, e)
	}
	return sig
}

// seeds are seeds of all kinds: an empty one, such as differ in one byte, bytes that aren't letters, and the longest ones.
func seeds() []string {
	return []string{"", "seed", "seee", "\x00", "\x00\xff", "\x04seed", strings.Repeat("s", 63), strings.Repeat("s", 64), strings.Repeat("\xff", 64)}
}

// texts are texts of all kinds, and of lengths about the limit of what is decoded, too.
func texts() []string {
	return []string{"", "a text", "another text", "text", "\x00", "\x00\x00", "\xff", strings.Repeat("t", 255), strings.Repeat("t", 256), strings.Repeat("t", 1<<18), strings.Repeat("t", 1<<18+1)}
}

// wrongHeights are heights that no keys have: among them those that are valid by their lower bits, or by 16 times them.
func wrongHeights() []int {
	return []int{0, 9, 10, 16, 31, 32, 33, 63, 64, 65, 255, 256, 257, 259, 1<<16 + 3, 1 << 31, 1 << 32, 1<<32 + 3, 1<<40 + 1, 1 << 60, 1<<60 + 3, 1 << 62, top - 1, top,
		-1, -2, -3, -8, -34, -35, -36, -64, -61, -256, -253, -1 << 32, -1<<32 + 3, -1 << 60, -1<<60 + 3, bottom, bottom + 1, bottom + 3}
}
