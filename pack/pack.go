// Package pack is layer 1: numbers, strings and lists as bytes, each in one way alone. See shared/doc/01-pack.md.
package pack

import (
	"math/bits"
	"strings"

	"tribunal/api"
)

// Num is the encoding of a number; of a negative one that of 0.
func Num(n int) string {
	n = max(n, 0)
	size := (bits.Len(uint(n)) + 7) / 8
	b := make([]byte, 1+size)
	b[0] = byte(size)
	for i := range size {
		b[size-i] = byte(n >> (8 * i))
	}
	return string(b)
}

// Text is the encoding of a string.
func Text(s string) string {
	return Num(len(s)) + s
}

// List is the encoding of a list.
func List(list ...string) string {
	var b strings.Builder
	b.WriteString(Num(len(list)))
	for _, s := range list {
		b.WriteString(Num(len(s)))
		b.WriteString(s)
	}
	return b.String()
}

// Reader decodes bytes, one item after the other.
type Reader struct {
	rest   string
	failed bool
}

// Open returns a reader of bytes; of more than MaxText it is one that has failed.
func Open(s string) *Reader {
	r := &Reader{rest: s}
	if len(s) > api.MaxText {
		r.fail()
	}
	return r
}

// fail drops the rest, so that whatever is asked next fails, too.
func (r *Reader) fail() {
	r.rest = ""
	r.failed = true
}

// take consumes so many bytes; if there are fewer, the reader fails.
func (r *Reader) take(size int) string {
	if size > len(r.rest) {
		r.fail()
		return ""
	}
	s := r.rest[:size]
	r.rest = r.rest[size:]
	return s
}

// Num consumes a number; 0, if there is none.
func (r *Reader) Num() int {
	if r == nil {
		return 0
	}
	head := r.take(1)
	if r.failed {
		return 0
	}
	digits := r.take(int(head[0]))
	n := 0
	for i := range len(digits) {
		n = n<<8 | int(digits[i])
	}
	// Only what Num makes is a number's encoding: that rules out a first digit 0, digits that are missing, and too many.
	if Num(n) != head+digits {
		r.fail()
		return 0
	}
	return n
}

// Text consumes a string; an empty one, if there is none.
func (r *Reader) Text() string {
	if r == nil {
		return ""
	}
	// An answer has memory of its own: a short string doesn't keep the bytes that it came from.
	return strings.Clone(r.take(r.Num()))
}

// List consumes a list; an empty one, if there is none.
func (r *Reader) List() []string {
	if r == nil {
		return nil
	}
	count := r.Num()
	if count > api.MaxParts {
		r.fail()
		return nil
	}
	var list []string
	for range count {
		list = append(list, r.Text())
		// Bytes that are wrong may claim any number of strings: what comes behind the fault isn't counted out.
		if r.failed {
			return nil
		}
	}
	return list
}

// End tells whether all was decoded, and nothing else was there: ErrNil, ErrForm.
func (r *Reader) End() api.Errno {
	switch {
	case r == nil:
		return api.ErrNil
	case r.failed || r.rest != "":
		return api.ErrForm
	}
	return api.OK
}

// Split returns the strings of the list whose encoding is s; ErrForm.
func Split(s string) ([]string, api.Errno) {
	r := Open(s)
	list := r.List()
	if e := r.End(); e != api.OK {
		return nil, e
	}
	return list, api.OK
}
