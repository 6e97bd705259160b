package keys_test

import (
	"crypto/sha256"
	"strings"
	"testing"

	"tribunal/api"
	"tribunal/keys"
)

// P6.1: New and Node, beside roots that another program computed.
func TestRootKnown(t *testing.T) {
	for _, c := range []struct {
		seed   string
		height int
		want   string
	}{
		{"", 1, "073dd81d538699b03845258e33fe511b"},
		{"seed", 1, "5a012d2c4dbc2eb95b3c0141430cee2d"},
		{"seed", 2, "45aec5f06211ae7760f74773ed1433ad"},
		{"seed", 3, "692589839b0b0266041c36ee0945a994"},
		{"seed", 8, "1104f74e17c240770f645f20517e6004"},
		{"\x00\xff", 4, "945c66e2d8f55e14d11e7d455ab736de"},
		{strings.Repeat("s", 63), 1, "914a360256e1e427d24b2d7407e24871"},
		{strings.Repeat("s", 64), 1, "30f9a5481eebe5979cd9eda93a9c9a02"},
		{"", 8, "10f9ebe3832662946de0c2ba46cac7ef"},
	} {
		n := made(t, c.seed, c.height).Node()
		if got := hexOf(string(n.Root[:])); got != c.want || n.Height != c.height {
			t.Errorf("%q, %d: %s, height %d, want %s", c.seed, c.height, got, n.Height, c.want)
		}
	}
}

// P6.1: Node is the root and the height, Count is 2 to the power of the height: for all seeds, and for all heights.
func TestNodeAndCount(t *testing.T) {
	seen := map[api.Elem]bool{}
	for _, seed := range seeds() {
		for height := 1; height <= 8; height++ {
			// The greatest trees are made for one seed alone, since the reference computes each key afresh.
			if height > 4 && seed != "seed" {
				continue
			}
			k := made(t, seed, height)
			n := k.Node()
			if want := rootOf(levelsOf(seed, height)); string(n.Root[:]) != want || n.Height != height {
				t.Errorf("%q, %d: %x, height %d, want %x", seed, height, n.Root, n.Height, want)
			}
			if seen[n.Root] {
				t.Errorf("%q, %d: other keys have this root", seed, height)
			}
			seen[n.Root] = true
			if got := k.Count(); got != 1<<height {
				t.Errorf("%q, %d: %d keys", seed, height, got)
			}
		}
	}
}

// P6.1: New returns ErrArg, and no keys, for a seed of more than 64 bytes.
func TestNewOfLongSeed(t *testing.T) {
	for _, size := range []int{65, 66, 127, 128, 129, 320, 1 << 16, 1<<18 + 1} {
		for _, height := range []int{1, 3, 8, 0, 9, -1} {
			if k, e := keys.New(strings.Repeat("s", size), height); e != api.ErrArg || k != nil {
				t.Errorf("%d bytes, height %d: %v, %d", size, height, k != nil, e)
			}
		}
	}
}

// P6.1: New returns ErrArg, and no keys, for a height that is not from 1 to 8.
func TestNewOfOtherHeights(t *testing.T) {
	for _, height := range wrongHeights() {
		for _, seed := range []string{"", "seed", strings.Repeat("s", 64)} {
			if k, e := keys.New(seed, height); e != api.ErrArg || k != nil {
				t.Errorf("%q, height %d: %v, %d", seed, height, k != nil, e)
			}
		}
	}
}

// P6.1: nil keys have no node, no count and no signature, whatever the index is: ErrNil.
func TestNilKeys(t *testing.T) {
	var k *keys.Keys
	if k.Node() != (api.Node{}) || k.Count() != 0 {
		t.Errorf("%v, %d", k.Node(), k.Count())
	}
	for _, index := range []int{bottom, -1, 0, 1, 2, 255, 256, top} {
		for _, text := range []string{"", "a text"} {
			if sig, e := k.Sign(index, text); e != api.ErrNil || sig != "" {
				t.Errorf("%d, %q: %q, %d", index, text, sig, e)
			}
		}
	}
}

// P6.1: Digest, beside elements that another program computed.
func TestDigestKnown(t *testing.T) {
	for _, c := range []struct {
		root  api.Elem
		index int
		text  string
		want  string
	}{
		{api.Elem{}, 0, "", "c16c8f166057b19715493847d7482b0b"},
		{rising(), 0, "a text", "d29279920d67971068a434f5c1b92e19"},
		{rising(), 5, "a text", "7dadcd90cbb926fb4e0483205cc9af1a"},
		{rising(), 5, "text", "ca9294a6b3e6e4a150209e57a6911c23"},
		{rising(), -1, "a text", "d29279920d67971068a434f5c1b92e19"},
		{rising(), bottom, "a text", "d29279920d67971068a434f5c1b92e19"},
		{rising(), 255, "\x00\xff", "c399e671168645783eed989006f0b650"},
		{rising(), 256, "", "201a90ed81a6fd961d4909449cb76e23"},
		{rising(), top, "a text", "7a58f10020a05caada297953d000cf72"},
		{filled(0xff), 1, strings.Repeat("t", 300), "514086f737500e39ee11432a477f6a73"},
	} {
		d := keys.Digest(c.root, c.index, c.text)
		if got := hexOf(string(d[:])); got != c.want {
			t.Errorf("%x, %d, %.20q: %s, want %s", c.root, c.index, c.text, got, c.want)
		}
	}
}

// P6.1: Digest hashes the root, the index and the text, each as a part of its own; no two of these have one digest.
func TestDigestOfAllKinds(t *testing.T) {
	seen := map[api.Elem]bool{}
	for _, root := range []api.Elem{{}, rising(), filled(0xff), {15: 1}, {1}} {
		for _, index := range []int{0, 1, 2, 127, 128, 255, 256, 257, 65535, 65536, 1 << 32, top - 1, top} {
			for _, text := range texts() {
				got := keys.Digest(root, index, text)
				if want := digestOf(string(root[:]), index, text); string(got[:]) != want {
					t.Errorf("%x, %d, %.20q: %x, want %x", root, index, text, got, want)
				}
				if seen[got] {
					t.Errorf("%x, %d, %.20q: another text has this digest", root, index, text)
				}
				seen[got] = true
			}
		}
	}
}

// P6.1: a negative index is encoded as 0 in a digest.
func TestDigestOfNegativeIndex(t *testing.T) {
	for _, index := range []int{-1, -5, -255, -256, -1 << 32, bottom + 1, bottom} {
		for _, text := range texts() {
			got := keys.Digest(rising(), index, text)
			root := rising()
			if want := digestOf(string(root[:]), 0, text); string(got[:]) != want {
				t.Errorf("%d, %.20q: %x, want %x", index, text, got, want)
			}
		}
	}
}

// P6.1: Size is 560 bytes, and 16 for each level: for the heights of keys, for 0, and for greater ones.
func TestSize(t *testing.T) {
	for _, c := range []struct{ height, want int }{
		{0, 560}, {1, 576}, {2, 592}, {3, 608}, {4, 624}, {5, 640}, {6, 656}, {7, 672}, {8, 688}, {9, 704},
		{64, 1584}, {256, 4656}, {1 << 20, 16777776}, {1 << 32, 68719477296}, {1 << 40, 17592186044976},
	} {
		if got := keys.Size(c.height); got != c.want {
			t.Errorf("%d: %d, want %d", c.height, got, c.want)
		}
	}
}

// P6.1: Sign, beside signatures that another program computed: their digests, first and last elements.
func TestSignKnown(t *testing.T) {
	for _, c := range []struct {
		seed              string
		height, index     int
		text              string
		first, last, hash string
	}{
		{"seed", 1, 0, "a text", "1f1a0ebb916a570a248b795cdaae7fa3", "d941a3955f9488ef1ca9e6a11fd543ec",
			"0ae8f388ba4fd4d429900d8933af92041f22d4452bd0095868ad2bf678119680"},
		{"seed", 1, 1, "a text", "eb238e8cdfed87530c587379b8948fe7", "65a5b5056ba8facc19f48824652bc552",
			"6a93e9ea731beeb19098fb8f45644b97370aeb02fce2663b3a8644bc542aa33a"},
		{"seed", 3, 5, "a text", "c5653b51626316a62f8f60ddd93f1973", "45aec5f06211ae7760f74773ed1433ad",
			"6b28dee7760e3ae02a554bf16cf1c43b3c45e3db13b8061f7b503949668bd062"},
		{"seed", 3, 5, "", "bf0c95f7d6eabe8f847952fa7695e62d", "45aec5f06211ae7760f74773ed1433ad",
			"d5939f5404beda9f1005cf17a03480d89226db8229c343080522ac7263ba5add"},
		{"", 2, 3, "\x00", "2d45f45fa72746aab8c0fe9aa061a0bc", "073dd81d538699b03845258e33fe511b",
			"af630674c650a02d6d0a2efb692dcc3c08cfdbb7bea732b2a5fce9cbdaacfa6d"},
		{"seed", 8, 255, "a text", "025f3e16345eab2ea486c770bc58468c", "6a9ac38384ee606ff30fb4ef9de30a3a",
			"e552cbbb1383a012a8322309f929e764c96bee3aa6f76739bbf32017f144dfc5"},
		{strings.Repeat("s", 64), 1, 0, "a text", "e6b32395a5652dd95d29f9dbb1cb802c", "939429d1d8e15cf1e383daf3213b058e",
			"5c3fd0361e0897097bc66b055c6d8a466698b1dbac6c801ba0d6334fd2cfcfad"},
	} {
		sig := signed(t, made(t, c.seed, c.height), c.index, c.text)
		hash := sha256.Sum256([]byte(sig))
		if len(sig) != 560+16*c.height || hexOf(sig[:16]) != c.first || hexOf(sig[len(sig)-16:]) != c.last || hexOf(string(hash[:])) != c.hash {
			t.Errorf("%q, %d, %d, %q: %x", c.seed, c.height, c.index, c.text, sig)
		}
	}
}

// P6.1: Sign is the signature of the digest, and the path, for each index of keys of all heights.
func TestSignOfEachIndex(t *testing.T) {
	for height := 1; height <= 8; height++ {
		k, levels := made(t, "seed", height), levelsOf("seed", height)
		for index := range 1 << height {
			text := texts()[index%9]
			want := signatureOf("seed", rootOf(levels), index, text, pathOf(levels, index))
			if got := signed(t, k, index, text); got != want {
				t.Errorf("height %d, index %d: %x, want %x", height, index, got, want)
			}
		}
	}
}

// P6.1: Sign of all kinds of texts, by keys of all kinds of seeds.
func TestSignOfAllKinds(t *testing.T) {
	for _, seed := range seeds() {
		k, levels := made(t, seed, 2), levelsOf(seed, 2)
		for i, text := range texts() {
			index := i % 4
			want := signatureOf(seed, rootOf(levels), index, text, pathOf(levels, index))
			if got := signed(t, k, index, text); got != want {
				t.Errorf("%q, index %d, %.20q: %x, want %x", seed, index, text, got, want)
			}
		}
	}
}

// P6.1: Sign returns ErrSpent, and no signature, for an index that the keys don't have.
func TestSignOfNoIndex(t *testing.T) {
	for height := 1; height <= 8; height++ {
		k := made(t, "seed", height)
		count := 1 << height
		for _, index := range []int{count, count + 1, 2*count - 1, 2 * count, 256, 257, 512, 1 << 16, 1 << 32, 1<<32 + 1, top - 1, top,
			-1, -2, -count, -count - 1, -count + 1, -256, -1 << 32, bottom, bottom + 1} {
			for _, text := range []string{"", "a text"} {
				if sig, e := k.Sign(index, text); e != api.ErrSpent || sig != "" {
					t.Errorf("height %d, index %d, %q: %q, %d", height, index, text, sig, e)
				}
			}
		}
	}
}

// P6.1: what keys return hangs on their seed and height alone, not on what was signed, or on other keys.
func TestKeepsNothing(t *testing.T) {
	k := made(t, "seed", 2)
	n, sig := k.Node(), signed(t, k, 1, "a text")
	other := made(t, "deed", 3)
	for index := range 4 {
		signed(t, k, index, "another text")
		signed(t, other, index, "a text")
	}
	k.Sign(4, "a text")
	k.Sign(-1, "a text")
	if k.Node() != n || k.Count() != 4 || signed(t, k, 1, "a text") != sig {
		t.Error("keys are changed by what they sign")
	}
	n.Root[0]++
	n.Height++
	if k.Node() == n || k.Node() != made(t, "seed", 2).Node() {
		t.Error("keys are changed by what they returned")
	}
}
