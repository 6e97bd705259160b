package chain_test

import (
	"slices"
	"strings"
	"testing"

	"tribunal/api"
	"tribunal/chain"
	"tribunal/keys"
)

// checked is whether an authenticator is right, as the chapter has it.
func checked(a api.Auth, nodes ...api.Node) bool {
	for i, n := range nodes {
		if i == a.Node {
			return a.Seq > 0 && keys.Verify(n, a.Seq-1, worded(a.Node, a.Seq, a.Hash), a.Sig)
		}
	}
	return false
}

// signers are the keys of five nodes, with several heights, and what is known of them.
func signers(t *testing.T) ([]*keys.Keys, []api.Node) {
	t.Helper()
	var list []*keys.Keys
	var nodes []api.Node
	for i, height := range []int{1, 2, 3, 1, 8} {
		k := keysOf(t, strings.Repeat("n", i+1), height)
		list, nodes = append(list, k), append(nodes, k.Node())
	}
	return list, nodes
}

// P16.1: Check is true for each node, for the first and the last position, and for all kinds of hashes.
func TestCheck(t *testing.T) {
	list, nodes := signers(t)
	for node, k := range list {
		for _, seq := range []int{1, 2, k.Count() - 1, k.Count()} {
			for _, hash := range prevs() {
				a := authOf(t, k, node, max(seq, 1), hash)
				if !chain.Check(a, nodes...) || !chain.Check(a, nodes[:node+1]...) {
					t.Errorf("%d, %d, %x", node, seq, hash)
				}
			}
		}
	}
}

// P16.1: Check is false without the node: of none, of fewer, and with the node at another place.
func TestCheckNodes(t *testing.T) {
	list, nodes := signers(t)
	for node, k := range list {
		a := authOf(t, k, node, 2, filled(3))
		if chain.Check(a) || chain.Check(a, nodes[:node]...) {
			t.Errorf("%d: its node isn't there", node)
		}
		for other := range nodes {
			moved := slices.Clone(nodes)
			moved[node], moved[other] = moved[other], moved[node]
			if chain.Check(a, moved...) != (other == node) {
				t.Errorf("%d: its node is at the place of %d", node, other)
			}
		}
		if moved := append([]api.Node{{}}, nodes...); chain.Check(a, moved...) || chain.Check(a, nodes[1:]...) {
			t.Errorf("%d: its node is one place further", node)
		}
	}
}

// P16.1: there may be more nodes than MaxNodes: they are counted from 0.
func TestCheckManyNodes(t *testing.T) {
	k := keysOf(t, "seed", 1)
	nodes := make([]api.Node, 300)
	nodes[299], nodes[7], nodes[5] = k.Node(), k.Node(), k.Node()
	for _, node := range []int{299, 7, 5} {
		if a := authOf(t, k, node, 1, filled(3)); !chain.Check(a, nodes...) {
			t.Errorf("%d", node)
		}
	}
	if a := authOf(t, k, 6, 1, filled(3)); chain.Check(a, nodes...) {
		t.Error("another one's keys")
	}
}

// P16.1: Check is false with another Node: negative, as many as there are, more, another one.
func TestCheckOtherNode(t *testing.T) {
	k := keysOf(t, "seed", 2)
	for _, count := range []int{1, 2, 5} {
		// All nodes have the same keys, so that only the number of the node tells them apart.
		nodes := slices.Repeat([]api.Node{k.Node()}, count)
		for _, node := range []int{bottom, bottom + 1, -count, -2, -1, 0, 1, 2, 4, 5, 6, 255, 256, 1 << 32, 1<<32 + 1, top} {
			a := authOf(t, k, node, 1, filled(3))
			if chain.Check(a, nodes...) != (0 <= node && node < count) {
				t.Errorf("%d nodes: %d", count, node)
			}
			for _, other := range []int{-1, 0, 1, 4, 5, top} {
				b := a
				b.Node = other
				// The bytes that are signed for a negative number are those for 0.
				same := other == max(node, 0)
				if chain.Check(b, nodes...) != (same && other < count) {
					t.Errorf("%d nodes: %d as %d", count, node, other)
				}
			}
		}
	}
}

// P16.1: Check is false with a Seq that is 0, negative, above the keys, or another one.
func TestCheckOtherSeq(t *testing.T) {
	k := keysOf(t, "seed", 3)
	for seq := 1; seq <= 8; seq++ {
		a := authOf(t, k, 0, seq, filled(3))
		for _, other := range []int{bottom, bottom + 1, -seq, -1, 0, 1, 2, 3, 4, 5, 6, 7, 8, 9, 16, seq + 8, seq + 256, seq + 1<<32, top} {
			a.Seq = other
			if chain.Check(a, k.Node()) != (other == seq) {
				t.Errorf("%d as %d", seq, other)
			}
		}
	}
}

// P16.1: a position that isn't signed by its own index is false, whatever was signed; so is a Seq of 0 whose bytes are signed.
func TestCheckOtherIndex(t *testing.T) {
	k := keysOf(t, "seed", 2)
	for index := range 4 {
		for _, seq := range []int{-1, 0, 1, 2, 3, 4, 5} {
			sig, _ := k.Sign(index, worded(0, seq, filled(3)))
			a := api.Auth{Seq: seq, Hash: filled(3), Sig: sig}
			if chain.Check(a, k.Node()) != (index == seq-1) {
				t.Errorf("position %d by the index %d", seq, index)
			}
		}
	}
}

// P16.1: Check is false with any bit of Hash changed.
func TestCheckOtherHash(t *testing.T) {
	k := keysOf(t, "seed", 1)
	for _, hash := range prevs() {
		a := authOf(t, k, 0, 1, hash)
		for i := range 256 {
			b := a
			b.Hash[i/8] ^= 1 << (i % 8)
			if chain.Check(b, k.Node()) {
				t.Fatalf("%x: bit %d", hash, i)
			}
		}
	}
}

// P16.1: Check is false with a Sig that is empty, cut, longer, or has one byte changed.
func TestCheckOtherSig(t *testing.T) {
	k := keysOf(t, "seed", 2)
	a := authOf(t, k, 0, 3, filled(3))
	sigs := []string{"", a.Sig + "\x00", a.Sig + a.Sig, a.Sig + strings.Repeat("\x00", 16), "\x00" + a.Sig, a.Sig[16:] + a.Sig[:16], strings.Repeat("\x00", len(a.Sig))}
	for i := range a.Sig {
		sigs = append(sigs, a.Sig[:i], a.Sig[i+1:])
		for _, bit := range []byte{1, 0x80} {
			sigs = append(sigs, a.Sig[:i]+string([]byte{a.Sig[i] ^ bit})+a.Sig[i+1:])
		}
	}
	for _, sig := range sigs {
		b := a
		b.Sig = sig
		if chain.Check(b, k.Node()) {
			t.Fatalf("%d bytes: %.100x", len(sig), sig)
		}
	}
	if !chain.Check(a, k.Node()) {
		t.Error("the right one")
	}
}

// P16.1: Check is false for what else is signed: another text, another purpose's word, bytes that are only similar.
func TestCheckOtherText(t *testing.T) {
	k := keysOf(t, "seed", 2)
	hash := filled(3)
	word := worded(0, 2, hash)
	for _, text := range []string{"", "word", string(hash[:]), word[1:], word + "\x00", word + word, strings.Replace(word, "word", "Word", 1),
		worded(0, 1, hash), worded(1, 2, hash), worded(0, 2, filled(4)), authBytes(api.Auth{Seq: 2, Hash: hash})} {
		sig, _ := k.Sign(1, text)
		if chain.Check(api.Auth{Seq: 2, Hash: hash, Sig: sig}, k.Node()) {
			t.Errorf("%x", text)
		}
	}
}

// P16.1: Check is false for a node with another root, or with a height that keys can't have.
func TestCheckOtherKeys(t *testing.T) {
	k := keysOf(t, "seed", 2)
	a := authOf(t, k, 0, 2, filled(3))
	for _, height := range []int{bottom, -1, 0, 1, 2, 3, 8, 9, 64, 66, 256 + 2, top} {
		n := k.Node()
		n.Height = height
		if chain.Check(a, n) != (height == 2) {
			t.Errorf("height %d", height)
		}
	}
	for i := range 16 {
		n := k.Node()
		n.Root[i] ^= 1
		if chain.Check(a, n) {
			t.Errorf("byte %d of the root", i)
		}
	}
	if chain.Check(a, keysOf(t, "deed", 2).Node()) || chain.Check(a, api.Node{}) || chain.Check(api.Auth{}, api.Node{}) || chain.Check(api.Auth{}) {
		t.Error("other keys, or none")
	}
}

// P16.1: drawn authenticators, with some fields of others, are right just where the chapter has them so.
func TestCheckDrawn(t *testing.T) {
	var chance row = 2
	list, nodes := signers(t)
	right := 0
	for range 1500 {
		node := chance.next(5)
		seq := 1 + chance.next(min(list[node].Count(), 4))
		a := authOf(t, list[node], node, seq, filled(byte(chance.next(2))))
		other := chance.next(5)
		b := authOf(t, list[other], other, 1+chance.next(2), filled(byte(chance.next(2))))
		switch chance.next(7) {
		case 0:
			a.Node = b.Node
		case 1:
			a.Seq = b.Seq
		case 2:
			a.Hash = b.Hash
		case 3:
			a.Sig = b.Sig
		case 4:
			a.Sig = a.Sig[:chance.next(len(a.Sig))]
		}
		some := nodes[:chance.next(6)]
		got := chain.Check(a, some...)
		if got != checked(a, some...) {
			t.Fatalf("%s, %d nodes: %v", told(a), len(some), got)
		}
		if got {
			right++
		}
	}
	if right < 300 || right > 1200 {
		t.Errorf("%d are right", right)
	}
}
