package entry_test

import (
	"slices"
	"testing"

	"tribunal/api"
	"tribunal/entry"
	"tribunal/pack"
)

// P15.2: what is valid is decoded from its encoding: drawn entries, each by itself and several together.
func TestEntriesComeBack(t *testing.T) {
	var chance row = 1
	list := good()
	for range 5000 {
		list = append(list, chance.entry())
	}
	for i, e := range list {
		if got, failed := entry.Read(entry.Text(e)); failed != api.OK || got != e || !entry.Good(e) {
			t.Errorf("%s: %s, %d", told(e), told(got), failed)
		}
		some := list[i:min(i+i%9, len(list))]
		if got, failed := entry.ReadAll(entry.Texts(some...)); failed != api.OK || !slices.Equal(got, some) {
			t.Errorf("%d entries from %d: %d, %d", len(some), i, len(got), failed)
		}
	}
}

// P15.2: entries that aren't the same have encodings that aren't, also where a single field, or a single byte of it, is another one.
func TestEncodingsDiffer(t *testing.T) {
	var chance row = 2
	list := good()
	for range 3000 {
		e := chance.entry()
		list = append(list, e)
		if e.Kind == 1 {
			continue
		}
		near := e
		switch chance.next(3) {
		case 0:
			near.Mask ^= 1 << chance.next(5)
		case 1:
			near.Payload += "\x00"
		case 2:
			near.Prev[chance.next(32)] ^= 1
			near.Sig += "s"
		}
		list = append(list, near)
	}
	held := map[string]api.Entry{}
	for _, e := range list {
		s := entry.Text(e)
		if s == "" {
			continue
		}
		if x, is := held[s]; is && x != e {
			t.Errorf("%s and %s have one encoding", told(x), told(e))
		}
		held[s] = e
	}
	if len(held) < 3000 {
		t.Errorf("%d encodings", len(held))
	}
}

// P15.2: lists of entries that aren't the same have bytes that aren't.
func TestListsDiffer(t *testing.T) {
	some := []api.Entry{recv(), {Kind: 3, Mask: 1}, {Kind: 3, Mask: 1, Payload: "\x00"}, {Kind: 1, Draft: drafts()[0]}}
	lists := [][]api.Entry{nil}
	for _, a := range some {
		lists = append(lists, []api.Entry{a})
		for _, b := range some {
			lists = append(lists, []api.Entry{a, b})
			for _, c := range some {
				lists = append(lists, []api.Entry{a, b, c})
			}
		}
	}
	for i, a := range lists {
		for _, b := range lists[:i] {
			if entry.Texts(a...) == entry.Texts(b...) {
				t.Errorf("%v and %v", a, b)
			}
		}
	}
}

// pieced are bytes of pieces that make an entry, or nearly.
func pieced(r *row) string {
	numbers := []string{"\x00", "\x01\x01", "\x01\x02", "\x01\x03", "\x01\x04", "\x01\x05", "\x01\x1f", "\x01\x20", "\x01\x00", "", "\x02\x01\x00", "\x01\x01\x00", "\x02\x00\x01"}
	number := func() string { return numbers[1+r.next(4)] }
	kind := 1 + r.next(3)
	list := []string{pack.Num(kind), number(), r.text(r.next(3))}
	switch kind {
	case 1:
		list = []string{"\x01\x01", pack.List(number(), r.text(1+r.next(2)), r.text(r.next(3)), string(make([]byte, 32)))}
	case 2:
		list = []string{"\x01\x02", number(), number(), r.text(32), number(), r.text(r.next(3)), r.text(r.next(3))}
	}
	if r.next(3) == 0 {
		list[r.next(len(list))] = numbers[r.next(len(numbers))]
	}
	return pack.List(list...)
}

// P15.2: bytes that are decoded are the encoding of the result: bytes of pieces that fit, or nearly, with the reference beside it.
func TestBytesComeBack(t *testing.T) {
	var chance row = 9
	counts := [2]int{}
	for range 20000 {
		texts := make([]string, chance.next(4))
		for i := range texts {
			texts[i] = pieced(&chance)
			if read(t, texts[i]) {
				counts[0]++
			}
		}
		if readAll(t, pack.List(texts...)) {
			counts[1]++
		}
	}
	if counts[0] < 5000 || counts[1] < 2000 {
		t.Errorf("%d are decoded", counts)
	}
}
