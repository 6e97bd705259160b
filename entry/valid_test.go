package entry_test

import (
	"strings"
	"testing"

	"tribunal/api"
	"tribunal/entry"
)

// P15.1: MaxSig is 1024.
func TestMaxSig(t *testing.T) {
	if entry.MaxSig != 1024 {
		t.Errorf("%d", entry.MaxSig)
	}
}

// P15.1: Good of entries of each Kind that are valid, each field at its edges.
func TestGood(t *testing.T) {
	for i, e := range good() {
		if !valid(e) || !entry.Good(e) {
			t.Errorf("%d: %s is not valid", i, told(e))
		}
	}
}

// P15.1: Good of entries that are not valid, for one reason alone.
func TestGoodOfOthers(t *testing.T) {
	for i, e := range bad() {
		if valid(e) || entry.Good(e) {
			t.Errorf("%d: %s is valid", i, told(e))
		}
	}
	if entry.Good(api.Entry{}) {
		t.Error("nothing is valid")
	}
}

// P15.1: the chapter's example: a Send with the Mask 0 is not valid.
func TestSendToNobody(t *testing.T) {
	if entry.Good(api.Entry{Kind: api.Send, Payload: "p"}) || entry.Good(api.Entry{Kind: api.Send}) {
		t.Error("it is valid")
	}
}

// P15.1: each field at each of several values, with each Kind, as the reference has it.
func TestGoodOfAll(t *testing.T) {
	counts := [4]int{}
	for kind := -1; kind <= 4; kind++ {
		for _, d := range []api.Draft{{}, drafts()[0], drafts()[4], badDrafts()[5], {Ref: last(1)}} {
			for _, from := range []int{-1, 0, 4, 5} {
				for _, seq := range []int{-1, 0, 1, top} {
					for _, prev := range []api.Id{{}, last(1)} {
						for _, mask := range []int{-1, 0, 1, 31, 32} {
							for _, size := range []int{0, 1, 2048, 2049} {
								for _, sig := range []int{0, 1, 1024, 1025} {
									e := api.Entry{Kind: kind, Draft: d, From: from, Seq: seq, Prev: prev, Mask: mask, Payload: strings.Repeat("p", size), Sig: strings.Repeat("s", sig)}
									if entry.Good(e) != valid(e) {
										t.Fatalf("%s: %v", told(e), !valid(e))
									}
									if valid(e) {
										counts[kind]++
									}
								}
							}
						}
					}
				}
			}
		}
	}
	if counts[1] != 2 || counts[2] != 2*2*2*2*3*3 || counts[3] != 2*3 {
		t.Errorf("%d are valid", counts)
	}
}

// P15.1: a Recv with a Prev that is zero, and with one that is not: both can be.
func TestPrev(t *testing.T) {
	for _, prev := range []api.Id{{}, {1}, last(1), filled(0xff)} {
		e := recv()
		e.Prev = prev
		if got, failed := entry.Read(entry.Text(e)); !entry.Good(e) || failed != api.OK || got != e {
			t.Errorf("%x: %v, %d", prev, got, failed)
		}
	}
}
