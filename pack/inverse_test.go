package pack_test

import (
	"math"
	"slices"
	"strings"
	"testing"

	"tribunal/api"
	"tribunal/pack"
)

// row is numbers that look like chance, the same ones in each run.
type row uint64

func (r *row) next(below int) int {
	*r = *r*6364136223846793005 + 1442695040888963407
	return int(uint64(*r)>>33) % below
}

func (r *row) text() string {
	b := make([]byte, r.next(6))
	for i := range b {
		b[i] = "\x00\x01\x02\x08\x09\x7f\x80\xffab"[r.next(10)]
	}
	return string(b)
}

func (r *row) list() []string {
	list := make([]string, r.next(5))
	for i := range list {
		list[i] = r.text()
	}
	return list
}

// strange calls f with all byte strings up to a length over the bytes at which the encoding turns.
func strange(length int, f func(s string)) {
	f("")
	if length == 0 {
		return
	}
	for _, c := range []byte("\x00\x01\x02\x03\x08\x09\x7f\x80\xff") {
		strange(length-1, func(s string) { f(string([]byte{c}) + s) })
	}
}

// P1.2: a number is decoded from its encoding, at each power of two and beside it.
func TestNumbersComeBack(t *testing.T) {
	check := func(n int) {
		r := pack.Open(pack.Num(n))
		if got := r.Num(); got != n || r.End() != api.OK {
			t.Errorf("%d comes back as %d, end %d", n, got, r.End())
		}
	}
	for n := range 70000 {
		check(n)
	}
	for i := range 63 {
		check(1<<i - 1)
		check(1 << i)
		check(1<<i + 1)
	}
	check(math.MaxInt64)
}

// P1.2: items of all kinds, one after the other, come back one after the other.
func TestItemsComeBack(t *testing.T) {
	var chance row = 1
	for range 2000 {
		var s strings.Builder
		var reads []func(r *pack.Reader) bool
		for range chance.next(8) {
			switch chance.next(3) {
			case 0:
				n := math.MaxInt64 >> chance.next(64)
				s.WriteString(pack.Num(n))
				reads = append(reads, func(r *pack.Reader) bool { return r.Num() == n })
			case 1:
				x := chance.text()
				s.WriteString(pack.Text(x))
				reads = append(reads, func(r *pack.Reader) bool { return r.Text() == x })
			case 2:
				list := chance.list()
				s.WriteString(pack.List(list...))
				reads = append(reads, func(r *pack.Reader) bool { return slices.Equal(r.List(), list) })
			}
		}
		r := pack.Open(s.String())
		for i, read := range reads {
			if !read(r) {
				t.Fatalf("%x: item %d is another one", s.String(), i)
			}
		}
		if r.End() != api.OK {
			t.Fatalf("%x: end %d", s.String(), r.End())
		}
	}
}

// P1.2: bytes that are decoded are the encoding of what comes out; nothing else is taken for an item.
func TestBytesComeBack(t *testing.T) {
	counts := [3]int{}
	strange(5, func(s string) {
		r := pack.Open(s)
		if n := r.Num(); r.End() == api.OK {
			counts[0]++
			if pack.Num(n) != s {
				t.Errorf("%x is the number %d", s, n)
			}
		}
		r = pack.Open(s)
		if x := r.Text(); r.End() == api.OK {
			counts[1]++
			if pack.Text(x) != s {
				t.Errorf("%x is the string %x", s, x)
			}
		}
		if list, e := pack.Split(s); e == api.OK {
			counts[2]++
			if pack.List(list...) != s {
				t.Errorf("%x is the list %q", s, list)
			}
		} else if len(list) != 0 {
			t.Errorf("%x is no list, and has %q", s, list)
		}
	})
	for kind, n := range counts {
		if n == 0 {
			t.Errorf("nothing was of kind %d", kind)
		}
	}
}

// P1.2: different lists have different encodings; none begins another one, so that one can stand behind another one.
func TestListsDiffer(t *testing.T) {
	texts := []string{"", "\x00", "\x01", "\x01\x01", "a", "\x00\x00", "\x01\x01\x00"}
	lists := [][]string{nil}
	for _, a := range texts {
		lists = append(lists, []string{a})
		for _, b := range texts {
			lists = append(lists, []string{a, b})
			for _, c := range texts {
				lists = append(lists, []string{a, b, c})
			}
		}
	}
	for i, a := range lists {
		for _, b := range lists[:i] {
			if x, y := pack.List(a...), pack.List(b...); strings.HasPrefix(x, y) || strings.HasPrefix(y, x) {
				t.Errorf("%q and %q: %x and %x", a, b, x, y)
			}
		}
	}
}
