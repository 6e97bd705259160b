package chain_test

import (
	"encoding/hex"
	"slices"
	"strings"
	"testing"

	"tribunal/api"
	"tribunal/chain"
)

// prevs are hashes ahead of an entry.
func prevs() []api.Id {
	return []api.Id{{}, {1}, last(1), filled(7), filled(0xff)}
}

// seqs are positions, also such as no log has.
func seqs() []int {
	return []int{bottom, -2, -1, 0, 1, 2, 127, 128, 255, 256, 257, 65535, 65536, 1 << 32, 1<<62 - 1, 1 << 62, 1<<62 + 1, top - 1, top}
}

// P16.1: Link, beside digests that another program computed.
func TestLinkKnown(t *testing.T) {
	recv := api.Entry{Kind: 2, From: 1, Seq: 7, Prev: filled(9), Mask: 5, Payload: "payload", Sig: "sig"}
	for _, c := range []struct {
		prev api.Id
		seq  int
		e    api.Entry
		want string
	}{
		{api.Id{}, 1, api.Entry{Kind: 3, Mask: 1, Payload: "a"}, "778d9ab4986e50d4326c5b8cf0eb1a2587d25762dfbf99ba6ae5d99bda2235ce"},
		{filled(7), 2, api.Entry{Kind: 3, Mask: 31, Payload: "payload"}, "2108e195995c0d196432efffbff666843a47457c1468c3e8f5f8e2b8e4ac2801"},
		{api.Id{}, 3, recv, "ed34fca684a8c41c4ae8f426012d44c8d4f50fc3d8e1aff51f34e0bf2deea2d9"},
		{api.Id{}, 1 << 62, api.Entry{Kind: 3, Mask: 1}, "13b237d92107cd38d404a51485757631e2cb086a2ccba715fa01a7bd3b7d6ab3"},
		{api.Id{}, top, api.Entry{Kind: 3, Mask: 4, Payload: "x"}, "c041e73cbc84f37883a5754b6889870a3c0adbbf47abf860177b7773e10b6943"},
		{filled(0xff), -1, api.Entry{Kind: 3, Mask: 1}, "7283c3e02775fb536e7b3d6cf8b129321aa5addced573c0c146fc3389da80d4c"},
		{api.Id{}, 1, api.Entry{}, "1cae1536435e470e1adcf75436d4abf835cef949601ec9451552d83daf612101"},
		{filled(0xff), 1 << 62, api.Entry{Kind: 3}, "0f30105625bd8eb50145efb016ee20925eba47cc9d35bd71be74cfcdbdc358b1"},
	} {
		got := chain.Link(c.prev, c.seq, c.e)
		if hex.EncodeToString(got[:]) != c.want {
			t.Errorf("%x, %d, %s: %x, not %s", c.prev, c.seq, told(c.e), got, c.want)
		}
	}
}

// P16.1: Link is the digest of the previous hash, the position and the encoding, each as a part of its own; no two of these have one hash.
func TestLink(t *testing.T) {
	seen := map[api.Id]string{}
	for _, prev := range prevs() {
		for _, seq := range seqs() {
			for _, e := range good() {
				got := chain.Link(prev, seq, e)
				if want := linked(prev, seq, e); got != want {
					t.Fatalf("%x, %d, %s: %x, not %x", prev, seq, told(e), got, want)
				}
				if seq < 0 {
					continue
				}
				if other, there := seen[got]; there {
					t.Fatalf("%s has this hash: %x, %d, %s", other, prev, seq, told(e))
				}
				seen[got] = told(e)
			}
		}
	}
}

// P16.1: Link of an entry that is not valid, whose encoding is empty, and of a negative position, which is encoded as 0.
func TestLinkOfOthers(t *testing.T) {
	for _, prev := range prevs() {
		for _, seq := range seqs() {
			want := linked(prev, seq, api.Entry{})
			for _, e := range bad() {
				if got := chain.Link(prev, seq, e); got != want {
					t.Fatalf("%x, %d, %s: %x, not %x", prev, seq, told(e), got, want)
				}
			}
		}
		for _, seq := range []int{bottom, bottom + 1, -256, -1} {
			if chain.Link(prev, seq, send("p")) != linked(prev, 0, send("p")) {
				t.Errorf("%x, %d", prev, seq)
			}
		}
	}
}

// walked is the hash at each of the entries, one from the other.
func walked(prev api.Id, seq int, list ...api.Entry) []api.Id {
	var hashes []api.Id
	for i, e := range list {
		prev = linked(prev, seq+i, e)
		hashes = append(hashes, prev)
	}
	return hashes
}

// P16.1: Walk, beside digests that another program computed.
func TestWalkKnown(t *testing.T) {
	list := []api.Entry{{Kind: 3, Mask: 1, Payload: "a"}, {Kind: 3, Mask: 2, Payload: "b"}, {Kind: 3, Mask: 3, Payload: "c"}}
	want := []string{
		"778d9ab4986e50d4326c5b8cf0eb1a2587d25762dfbf99ba6ae5d99bda2235ce",
		"d392dfdbf5248d269fcbf7d8a17e1ed38cad5d655d64617c1500ae14b2e531eb",
		"e4727009af26369f3fceec61979e9fb680679e9e71aef5c288a04f58512676b2",
	}
	got := chain.Walk(api.Id{}, 1, list...)
	if len(got) != 3 {
		t.Fatalf("%d hashes", len(got))
	}
	for i, hash := range got {
		if hex.EncodeToString(hash[:]) != want[i] {
			t.Errorf("%d: %x", i, hash)
		}
	}
}

// P16.1: Walk with none, one, several, and entries that are not valid, from all kinds of positions and hashes.
func TestWalk(t *testing.T) {
	lists := [][]api.Entry{nil, {}, {send("p")}, {send("p"), send("p")}, good(), bad(), append(good(), append(bad(), good()...)...)}
	for _, e := range append(good(), bad()...) {
		lists = append(lists, []api.Entry{e}, []api.Entry{send("a"), e, send("b")})
	}
	for _, prev := range prevs() {
		for _, seq := range []int{bottom, -5, -1, 0, 1, 2, 250, 255, 256, 65530, 1 << 32, 1<<62 - 1, 1 << 62} {
			for _, list := range lists {
				if got, want := chain.Walk(prev, seq, list...), walked(prev, seq, list...); !slices.Equal(got, want) {
					t.Fatalf("%x, %d, %d entries: %s, not %s", prev, seq, len(list), told(got), told(want))
				}
			}
		}
	}
}

// P16.1: Walk of many entries, and Walk in two steps, which is Walk at once.
func TestWalkOfMany(t *testing.T) {
	var chance row = 1
	for range 60 {
		list := chance.entries(chance.next(40))
		prev, seq := chance.id(), chance.next(1000)
		want := walked(prev, seq, list...)
		if got := chain.Walk(prev, seq, list...); !slices.Equal(got, want) {
			t.Fatalf("%d entries from %d on", len(list), seq)
		}
		cut := chance.next(len(list) + 1)
		first, middle := chain.Walk(prev, seq, list[:cut]...), prev
		if cut > 0 {
			middle = first[cut-1]
		}
		if got := append(first, chain.Walk(middle, seq+cut, list[cut:]...)...); !slices.Equal(got, want) {
			t.Fatalf("%d entries, cut at %d", len(list), cut)
		}
	}
	many := chance.entries(5000)
	if !slices.Equal(chain.Walk(filled(1), 1, many...), walked(filled(1), 1, many...)) {
		t.Error("5000 entries")
	}
}

// P16.1: Word is the bytes that the chapter names.
func TestWord(t *testing.T) {
	want := "\x01\x04" + "\x01\x04word" + "\x01\x02\x01\x01" + "\x01\x02\x01\x02" + "\x01\x20" + strings.Repeat("\x07", 32)
	if got := chain.Word(1, 2, filled(7)); got != want {
		t.Errorf("%x, not %x", got, want)
	}
	seen := map[string]int{}
	for _, node := range []int{0, 1, 4, 5, 255, 256, top, -1, bottom} {
		for _, seq := range seqs() {
			for _, hash := range prevs() {
				got := chain.Word(node, seq, hash)
				if got != worded(node, seq, hash) {
					t.Fatalf("%d, %d, %x: %x", node, seq, hash, got)
				}
				if node >= 0 && seq >= 0 {
					seen[got]++
				}
				if got != chain.Word(max(node, 0), max(seq, 0), hash) {
					t.Fatalf("%d, %d: a negative number isn't encoded as 0", node, seq)
				}
			}
		}
	}
	if len(seen) != 7*16*5 {
		t.Errorf("%d words", len(seen))
	}
}
