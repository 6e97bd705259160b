package op_test

import (
	"slices"
	"strings"
	"testing"

	"tribunal/api"
	"tribunal/op"
	"tribunal/pack"
)

// numeral is bytes where a number is asked for, beside whether they are one alone.
type numeral struct {
	s  string
	is bool
}

// numerals are bytes that are a number, and such as are none: not in the shortest form, cut, too great, with bytes behind.
func numerals(n int) []numeral {
	good := pack.Num(n)
	return []numeral{
		{good, true},
		{"", false},
		{good[:1], n == 0},
		{good + "\x00", false},
		{good + "\x01", false},
		{good + good, false},
		{"\x00" + good, false},
		{string([]byte{good[0] + 1}) + "\x00" + good[1:], false},
		{"\x08" + strings.Repeat("\x00", 9-len(good)) + good[1:], len(good) == 9},
		{"\x08\x80" + strings.Repeat("\x00", 6) + "\x01", false},
		{"\x09" + strings.Repeat("\x00", 9-len(good)) + "\x00" + good[1:], false},
	}
}

// alien are bytes that no encoding of a draft, an operation or a payload is.
func alien() []string {
	return []string{
		"", "\x01", "\x01\x04", "\x01\x01", "\x02\x00\x04", "\x01\x00", "\x08\x7f\xff\xff\xff\xff\xff\xff\xff", "\x09\x01\x00\x00\x00\x00\x00\x00\x00\x00",
		"k", strings.Repeat("\xff", 100), strings.Repeat("\x00", 100), strings.Repeat("\x01", 100), strings.Repeat("\x01\x04", 50),
		pack.List(""), pack.List("", "", "", ""), pack.List(make([]string, 9)...), pack.List(make([]string, api.MaxParts)...), pack.List(make([]string, api.MaxParts+1)...),
		pack.List(strings.Repeat("x", api.MaxText)), strings.Repeat("\x00", api.MaxText+1),
	}
}

// other calls f with s, cut at every place, with bytes added in front and behind, and with any one byte changed.
func other(s string, f func(s string)) {
	for i := range len(s) {
		f(s[:i])
		f(s[i+1:])
		f(s[:i] + s[i+1:])
	}
	for _, more := range []string{"\x00", "\x01", "\x01\x04", "\xff", s} {
		f(s + more)
		f(more + s)
	}
	for i := range len(s) {
		for b := range 256 {
			if byte(b) != s[i] {
				f(s[:i] + string([]byte{byte(b)}) + s[i+1:])
			}
		}
	}
}

// P9.1: ReadDraft of the encodings of all drafts: the valid ones are returned, of the others there is nothing.
func TestReadDraft(t *testing.T) {
	for _, d := range append(allDrafts(), goodDrafts()...) {
		s := draftBytes(d)
		if !validDraft(d) {
			noDraft(t, s)
		} else if got, e := op.ReadDraft(s); e != api.OK || got != d {
			t.Errorf("%x: %x, %d", d, got, e)
		}
	}
	for _, d := range badDrafts() {
		noDraft(t, draftBytes(d))
	}
}

// P9.1: Read of the encodings of all operations: the valid ones are returned, of the others there is nothing, unless a negative number counts as 0.
func TestRead(t *testing.T) {
	for _, o := range append(allOps(), goodOps()...) {
		s := opBytes(o)
		if got, e := op.Read(s); validOp(o) && (e != api.OK || !same(got, o)) {
			t.Errorf("%x: %x, %d", o, got, e)
		}
		if !opRead(t, s) && validOp(o) {
			t.Errorf("%x isn't read", o)
		}
	}
	for _, o := range badOps() {
		noOp(t, opBytes(o))
	}
}

// P9.1: what is read of an operation with a negative author is the one of author 0, as its encoding says; a negative depth or kind is none.
func TestReadNegativeNumbers(t *testing.T) {
	for _, n := range []int{-1, -5, -256, bottom} {
		for _, o := range goodOps() {
			author, depth, kind := o, o, o
			author.Author, depth.Depth, kind.Kind = n, n, n
			want := o
			want.Author = 0
			if got, e := op.Read(op.Text(author)); e != api.OK || !same(got, want) {
				t.Errorf("%x: %x, %d", author, got, e)
			}
			noOp(t, op.Text(depth))
			noOp(t, op.Text(kind))
			noDraft(t, op.DraftText(kind.Draft))
		}
	}
}

// P9.1: ReadBatch of payloads of none, of up to 8, and of more operations.
func TestReadBatch(t *testing.T) {
	all := goodOps()
	for len(all) < 20 {
		all = append(all, all...)
	}
	for _, count := range []int{0, 1, 2, 3, 7, 8, 9, 10, 16, 17, 20} {
		for from := range 5 {
			list := slices.Repeat(all, 2)[from : from+count]
			s := batchBytes(list...)
			if count > 8 {
				noBatch(t, s)
				continue
			}
			got, e := op.ReadBatch(s)
			if e != api.OK || !slices.EqualFunc(got, list, same) {
				t.Errorf("%d operations: %x, %d", count, got, e)
			}
			batchRead(t, s)
		}
	}
	for _, count := range []int{256, 257, 1000} {
		noBatch(t, batchBytes(slices.Repeat(all[:1], count)...))
	}
}

// P9.1: ReadBatch of one operation more than once, and of the greatest ones that are valid.
func TestReadBatchOfEqualAndGreatOnes(t *testing.T) {
	great := goodOps()[14]
	if len(great.Preds) != 32 || len(great.Key) != 16 || len(great.Value) != 64 || great.Depth != top {
		t.Fatalf("%x isn't the greatest one", great)
	}
	for _, o := range []api.Op{goodOps()[0], goodOps()[5], great} {
		for count := 1; count <= 8; count++ {
			list := slices.Repeat([]api.Op{o}, count)
			if got, e := op.ReadBatch(op.Batch(list...)); e != api.OK || !slices.EqualFunc(got, list, same) {
				t.Errorf("%d times %x: %x, %d", count, o, got, e)
			}
		}
	}
}

// P9.1: ReadBatch of a payload in which one operation, wherever it is, is not valid, or is none.
func TestReadBatchWithOneBad(t *testing.T) {
	var wrong []string
	for _, o := range badOps() {
		wrong = append(wrong, opBytes(o))
	}
	good := opBytes(goodOps()[3])
	wrong = append(wrong, "", "\x00", good[:len(good)-1], good+"\x00", pack.List(good), draftBytes(goodDrafts()[0]))
	for _, count := range []int{1, 2, 3, 8} {
		for at := range count {
			for _, s := range wrong {
				texts := slices.Repeat([]string{good}, count)
				texts[at] = s
				noBatch(t, pack.List(texts...))
			}
		}
	}
}

// P9.1: ReadDraft of a draft's bytes, cut, with bytes added, or with one byte changed.
func TestReadDraftOfOtherBytes(t *testing.T) {
	read := 0
	for _, d := range goodDrafts() {
		s := draftBytes(d)
		for i := range len(s) {
			noDraft(t, s[:i])
			noDraft(t, s[i+1:])
			noDraft(t, s+s[:i+1])
		}
		other(s, func(s string) {
			if draftRead(t, s) {
				read++
			}
		})
	}
	if read < 1000 {
		t.Errorf("%d drafts", read)
	}
}

// P9.1: Read of an operation's bytes, cut, with bytes added, or with one byte changed.
func TestReadOfOtherBytes(t *testing.T) {
	read := 0
	for i, o := range goodOps() {
		s := opBytes(o)
		for i := range len(s) {
			noOp(t, s[:i])
			noOp(t, s[i+1:])
			noOp(t, s+s[:i+1])
		}
		// Each kind of draft once, with Preds or without.
		if i > 14 || (i/2+i)%2 == 1 {
			continue
		}
		other(s, func(s string) {
			if opRead(t, s) {
				read++
			}
		})
	}
	if read < 1000 {
		t.Errorf("%d operations", read)
	}
}

// P9.1: ReadBatch of a payload's bytes, cut, with bytes added, or with one byte changed.
func TestReadBatchOfOtherBytes(t *testing.T) {
	read := 0
	all := goodOps()
	for _, list := range [][]api.Op{{}, {all[0]}, {all[1], all[8]}, {all[12], all[13], all[0]}} {
		s := batchBytes(list...)
		for i := range len(s) {
			noBatch(t, s[:i])
			noBatch(t, s+s[:i+1])
		}
		other(s, func(s string) {
			if batchRead(t, s) {
				read++
			}
		})
	}
	if read < 1000 {
		t.Errorf("%d payloads", read)
	}
}

// P9.1: lists that have not four strings are no draft and no operation: one removed, wherever it is, one added, or twice as many.
func TestReadOtherLists(t *testing.T) {
	check := func(s string, none func(t *testing.T, s string)) {
		list, e := pack.Split(s)
		if e != api.OK || len(list) != 4 {
			t.Fatalf("%x: %d strings", s, len(list))
		}
		for i := range 5 {
			none(t, pack.List(list[:i%4]...))
			for _, more := range []string{"", "\x00", "k", strings.Repeat("\x00", 32), list[min(i, 3)], s} {
				none(t, pack.List(slices.Insert(slices.Clone(list), i, more)...))
			}
		}
		for i := range 4 {
			none(t, pack.List(slices.Delete(slices.Clone(list), i, i+1)...))
		}
		none(t, pack.List(append(list, list...)...))
		none(t, pack.List(s))
		none(t, strings.Join(list, ""))
		none(t, pack.Text(s))
	}
	for _, d := range goodDrafts() {
		check(draftBytes(d), noDraft)
	}
	for _, o := range goodOps() {
		check(opBytes(o), noOp)
	}
}

// P9.1: an operation is no draft and no payload, a draft is no operation, a payload is neither; bytes of other things are nothing at all.
func TestReadOfOtherKinds(t *testing.T) {
	for _, o := range goodOps() {
		noDraft(t, opBytes(o))
		noBatch(t, opBytes(o))
		noOp(t, draftBytes(o.Draft))
		noBatch(t, draftBytes(o.Draft))
		noBatch(t, pack.List(draftBytes(o.Draft)))
		for count := range 9 {
			s := batchBytes(slices.Repeat([]api.Op{o}, count)...)
			noDraft(t, s)
			noOp(t, s)
		}
	}
	for _, s := range alien() {
		noDraft(t, s)
		noOp(t, s)
		noBatch(t, s)
	}
}

// P9.1: a Kind that is in the shortest form, and alone, is read; others are not.
func TestReadKind(t *testing.T) {
	for _, d := range goodDrafts() {
		for _, c := range numerals(d.Kind) {
			s := pack.List(c.s, d.Key, d.Value, string(d.Ref[:]))
			if draftRead(t, s) != c.is {
				t.Errorf("Kind %x: %v", c.s, !c.is)
			}
			if opRead(t, pack.List(pack.Num(0), pack.Num(1), "", s)) != c.is {
				t.Errorf("Kind %x of an operation: %v", c.s, !c.is)
			}
		}
		for _, kind := range []int{0, 6, 256 + d.Kind, 1<<32 + d.Kind, top} {
			noDraft(t, pack.List(pack.Num(kind), d.Key, d.Value, string(d.Ref[:])))
		}
	}
}

// P9.1: an Author and a Depth that are in the shortest form, and alone, are read; others are not.
func TestReadAuthorAndDepth(t *testing.T) {
	for _, o := range goodOps() {
		list, _ := pack.Split(opBytes(o))
		for _, c := range numerals(o.Author) {
			if opRead(t, pack.List(c.s, list[1], list[2], list[3])) != c.is {
				t.Errorf("Author %x: %v", c.s, !c.is)
			}
		}
		for _, c := range numerals(o.Depth) {
			if opRead(t, pack.List(list[0], c.s, list[2], list[3])) != c.is {
				t.Errorf("Depth %x: %v", c.s, !c.is)
			}
		}
	}
}

// P9.1: a Ref has 32 bytes, neither less nor more.
func TestReadRef(t *testing.T) {
	for _, d := range goodDrafts() {
		whole := string(d.Ref[:]) + strings.Repeat("\x00", 64)
		for size := range len(whole) {
			for _, ref := range []string{whole[:size], whole[len(whole)-size:], strings.Repeat("\xff", size)} {
				s := pack.List(pack.Num(d.Kind), d.Key, d.Value, ref)
				if is := draftRead(t, s); is && size != 32 {
					t.Errorf("a Ref of %d bytes is read", size)
				}
				if is := opRead(t, pack.List(pack.Num(0), pack.Num(1), "", s)); is && size != 32 {
					t.Errorf("a Ref of %d bytes is read in an operation", size)
				}
			}
		}
	}
}

// P9.1: the bytes of Preds are a multiple of 32, up to 32 times as many.
func TestReadPreds(t *testing.T) {
	whole := ""
	for _, x := range rising(34) {
		whole += string(x[:])
	}
	for size := range len(whole) + 1 {
		for depth := range 3 {
			s := pack.List(pack.Num(1), pack.Num(depth), whole[:size], draftBytes(goodDrafts()[0]))
			want := size == 0 && depth == 1 || size > 0 && size <= 1024 && size%32 == 0 && depth == 2
			if opRead(t, s) != want {
				t.Errorf("Preds of %d bytes, depth %d: %v", size, depth, !want)
			}
		}
	}
}
