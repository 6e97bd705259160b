package once_test

import (
	"crypto/sha256"
	"encoding/hex"
	"math"
	"strings"

	"tribunal/api"
)

// top is the greatest index, and the greatest number of a chain.
const top = math.MaxInt64

// row is numbers that look like chance, the same ones in each run.
type row uint64

func (r *row) next(below int) int {
	*r = *r*6364136223846793005 + 1442695040888963407
	return int(uint64(*r)>>33) % below
}

func (r *row) text(size int) string {
	b := make([]byte, size)
	for i := range b {
		b[i] = byte(r.next(256))
	}
	return string(b)
}

func (r *row) elem() api.Elem {
	return api.Elem([]byte(r.text(16)))
}

// filled is the element whose bytes are all b.
func filled(b byte) api.Elem {
	return api.Elem([]byte(strings.Repeat(string([]byte{b}), 16)))
}

// rising is the element of the bytes 0 to 15.
func rising() api.Elem {
	var x api.Elem
	for i := range x {
		x[i] = byte(i)
	}
	return x
}

func hexOf(s string) string {
	return hex.EncodeToString([]byte(s))
}

// number is a number's encoding as the chapters have it.
func number(n int) string {
	s := ""
	for n > 0 {
		s = string([]byte{byte(n % 256)}) + s
		n /= 256
	}
	return string([]byte{byte(len(s))}) + s
}

// half is the first half of the digest of a list's bytes, by the library's SHA-256.
func half(list ...string) string {
	s := number(len(list))
	for _, one := range list {
		s += number(len(one)) + one
	}
	d := sha256.Sum256([]byte(s))
	return string(d[:16])
}

// secretOf is the secret of a place as the chapter has it.
func secretOf(seed string, index, chain int) string {
	return half("k", seed, number(index), number(chain))
}

// walked is a walk as the chapter before has it.
func walked(x string, index, chain, from, to int) string {
	for step := from; step < to; step++ {
		x = half("s", x, number(step), number(index)+number(chain))
	}
	return x
}

// digitsOf is the 35 digits of an element as the chapter before has them.
func digitsOf(d api.Elem) []int {
	var digits []int
	left := 480
	for _, b := range d {
		high, low := int(b)/16, int(b)%16
		digits = append(digits, high, low)
		left -= high + low
	}
	return append(digits, left/256, left/16%16, left%16)
}

// leafOf is the public key of an index as the chapter has it.
func leafOf(seed string, index int) string {
	ends := ""
	for chain := range 35 {
		ends += walked(secretOf(seed, index, chain), index, chain, 0, 15)
	}
	return half("l", ends, number(index))
}

// signatureOf is the signature of an element as the chapter has it.
func signatureOf(seed string, index int, d api.Elem) string {
	sig := ""
	for chain, digit := range digitsOf(d) {
		sig += walked(secretOf(seed, index, chain), index, chain, 0, digit)
	}
	return sig
}

// metOf is what Meet makes of 560 bytes as the chapter has it.
func metOf(sig string, index int, d api.Elem) string {
	ends := ""
	for chain, digit := range digitsOf(d) {
		ends += walked(sig[16*chain:16*chain+16], index, chain, digit, 15)
	}
	return half("l", ends, number(index))
}

// seeds are seeds of all kinds: an empty one, bytes that aren't letters, the longest of a tree of keys, and longer ones.
func seeds() []string {
	return []string{"", "seed", "seee", "\x00", "\x00\xff", "\x04seed", strings.Repeat("s", 64), strings.Repeat("s", 65), strings.Repeat("\xff", 300)}
}

// indices are indices about the ends of bytes, and the great ones.
func indices() []int {
	return []int{0, 1, 2, 5, 127, 128, 255, 256, 257, 65535, 65536, 1 << 32, top - 1, top}
}

// elements are elements whose digits are 0, 15, all, and between.
func elements() []api.Elem {
	return []api.Elem{filled(0), filled(0xff), rising(), filled(0x77), filled(0xf0), {0x10}, {15: 0x01}}
}
