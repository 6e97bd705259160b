package entry_test

import (
	"slices"
	"testing"

	"tribunal/api"
	"tribunal/entry"
)

// P15.1: what a caller does with what it gave, or was given, changes nothing of what is returned, earlier or later.
func TestMemoryOfReadAll(t *testing.T) {
	list := good()[:40]
	given := slices.Clone(list)
	s := entry.Texts(given...)
	if !slices.Equal(given, list) {
		t.Error("Texts changes its arguments")
	}
	clear(given)
	first, e := entry.ReadAll(s)
	if e != api.OK || !slices.Equal(first, list) {
		t.Fatalf("%d, %d", len(first), e)
	}
	second, _ := entry.ReadAll(s)
	spoilt := first[:cap(first)]
	clear(spoilt)
	if !slices.Equal(second, list) {
		t.Error("an earlier result shares memory with a later one")
	}
	if third, _ := entry.ReadAll(s); !slices.Equal(third, list) {
		t.Error("a result that was changed is seen later")
	}
}

// P15.1: Outs leaves its arguments as they are, beyond their end as well, and keeps nothing of them.
func TestMemoryOfOuts(t *testing.T) {
	held := outs()
	given := slices.Clone(held)
	first := entry.Outs(given[:5]...)
	want := slices.Clone(first)
	if !slices.Equal(given, held) {
		t.Error("Outs changes its arguments")
	}
	clear(given)
	if !slices.Equal(first, want) {
		t.Error("Outs keeps its arguments")
	}
	second := entry.Outs(held[:5]...)
	clear(first[:cap(first)])
	if !slices.Equal(second, want) || !slices.Equal(entry.Outs(held[:5]...), want) {
		t.Error("results share memory")
	}
}

// P15.1: Texts leaves what is behind the end of its arguments as it is.
func TestMemoryOfTexts(t *testing.T) {
	list := good()[:10]
	given := slices.Clone(list)
	want := entry.Texts(list[:4]...)
	if entry.Texts(given[:4]...) != want || !slices.Equal(given, list) {
		t.Error("Texts changes its arguments")
	}
}

// P15.1: the same call gives the same result, whatever was asked ahead of it.
func TestSameAgain(t *testing.T) {
	var chance row = 5
	for range 500 {
		e := chance.entry()
		s := entry.Text(e)
		entry.Text(chance.entry())
		entry.Read(chance.text(30))
		if got, _ := entry.Read(s); entry.Text(e) != s || got != e {
			t.Fatalf("%s", told(e))
		}
	}
}
