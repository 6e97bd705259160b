package keys_test

import (
	"strings"
	"testing"

	"tribunal/api"
	"tribunal/keys"
)

// P6.2: each signature verifies: for all heights, each index, and texts of all kinds.
func TestVerifyOfEachIndex(t *testing.T) {
	for height := 1; height <= 8; height++ {
		k := made(t, "seed", height)
		for index := range k.Count() {
			text := texts()[index%9]
			if !keys.Verify(k.Node(), index, text, signed(t, k, index, text)) {
				t.Errorf("height %d, index %d", height, index)
			}
		}
	}
}

// P6.2: each signature verifies, and is the only one of its text by its index: for all seeds and texts, by the same keys and by others of this seed.
func TestSameSignature(t *testing.T) {
	for _, seed := range seeds() {
		k, again := made(t, seed, 2), made(t, seed, 2)
		seen := map[string]bool{}
		for index := range 4 {
			for _, text := range texts() {
				sig := signed(t, k, index, text)
				if !keys.Verify(k.Node(), index, text, sig) {
					t.Errorf("%q, index %d, %.20q", seed, index, text)
				}
				if signed(t, k, index, text) != sig || signed(t, again, index, text) != sig {
					t.Errorf("%q, index %d, %.20q: two signatures", seed, index, text)
				}
				if seen[sig] {
					t.Errorf("%q, index %d, %.20q: another text, or index, has this signature", seed, index, text)
				}
				seen[sig] = true
			}
		}
	}
}

// P6.1: Verify hangs on the bytes alone: a signature is right for any root that its path climbs to, of each valid height and index.
func TestVerifyOfOtherTrees(t *testing.T) {
	var chance row = 19
	for height := 1; height <= 8; height++ {
		for _, index := range []int{0, 1, 1<<height - 2, 1<<height - 1, chance.next(1 << height)} {
			root, sig := crafted("seed", index, "a text", chance.texts(height))
			if !keys.Verify(api.Node{Root: root, Height: height}, index, "a text", sig) {
				t.Errorf("height %d, index %d", height, index)
			}
		}
	}
}

// P6.1: Verify is false for a node whose height is not valid, even where all else of its signature is right.
func TestVerifyOfOtherHeights(t *testing.T) {
	var chance row = 23
	for levels := range 11 {
		for _, index := range []int{0, 1} {
			root, sig := crafted("seed", index, "a text", chance.texts(levels))
			for _, height := range wrongHeights() {
				if keys.Verify(api.Node{Root: root, Height: height}, index, "a text", sig) {
					t.Errorf("height %d, index %d: a path of %d verifies", height, index, levels)
				}
			}
		}
	}
	for _, height := range wrongHeights() {
		for size := range 80 {
			for _, sig := range []string{strings.Repeat("\x00", 16*size), strings.Repeat("\xff", 16*size)} {
				if keys.Verify(api.Node{Height: height}, 0, "", sig) {
					t.Errorf("height %d: %d bytes verify", height, len(sig))
				}
			}
		}
	}
}

// P6.1: Verify is false for an index that the node's keys don't have, even where all else of its signature is right.
func TestVerifyOfNoIndex(t *testing.T) {
	var chance row = 29
	for height := 1; height <= 8; height++ {
		count := 1 << height
		for _, index := range []int{count, count + 1, 2*count - 1, 2 * count, 511, 512, 1 << 32, 1<<32 + 1, top - 1, top,
			-1, -2, -3, -count, -count - 1, -count + 1, -256, -1 << 32, bottom, bottom + 1} {
			root, sig := crafted("seed", index, "a text", chance.texts(height))
			if keys.Verify(api.Node{Root: root, Height: height}, index, "a text", sig) {
				t.Errorf("height %d, index %d", height, index)
			}
		}
	}
}

// P6.1: Verify is false for a path of another length than the node's height, even where it climbs to the root.
func TestVerifyOfOtherPaths(t *testing.T) {
	var chance row = 31
	for levels := range 12 {
		root, sig := crafted("seed", 1, "a text", chance.texts(levels))
		for height := 1; height <= 8; height++ {
			if got := keys.Verify(api.Node{Root: root, Height: height}, 1, "a text", sig); got != (levels == height) {
				t.Errorf("height %d, a path of %d: %v", height, levels, got)
			}
		}
	}
}

// P6.1: Verify is false for a signature in which any byte is changed.
func TestVerifyOfChangedBytes(t *testing.T) {
	for _, height := range []int{1, 3, 8} {
		k := made(t, "seed", height)
		index := k.Count() - 2
		sig := signed(t, k, index, "a text")
		for at := range len(sig) {
			for _, change := range []byte{1, 0x80, 0xff} {
				changed := []byte(sig)
				changed[at] ^= change
				if keys.Verify(k.Node(), index, "a text", string(changed)) {
					t.Errorf("height %d: byte %d plays no part", height, at)
				}
			}
		}
	}
}

// P6.1: Verify is false for a signature that is too short, or too long, by any number of bytes, at its end or its beginning.
func TestVerifyOfOtherLengths(t *testing.T) {
	for _, height := range []int{1, 3, 8} {
		k := made(t, "seed", height)
		sig := signed(t, k, 1, "a text")
		for size := range len(sig) {
			if keys.Verify(k.Node(), 1, "a text", sig[:size]) || keys.Verify(k.Node(), 1, "a text", sig[len(sig)-size:]) {
				t.Errorf("height %d: %d bytes verify", height, size)
			}
		}
		for _, more := range []string{"\x00", "\xff", sig[:1], sig[len(sig)-1:], sig[len(sig)-16:], sig[:16], sig[:560], sig, strings.Repeat("\x00", 16), strings.Repeat("s", 1<<18)} {
			if keys.Verify(k.Node(), 1, "a text", sig+more) || keys.Verify(k.Node(), 1, "a text", more+sig) {
				t.Errorf("height %d: %d more bytes verify", height, len(more))
			}
		}
	}
}

// P6.1: Verify is false for another text than the signed one.
func TestVerifyOfOtherTexts(t *testing.T) {
	k := made(t, "seed", 2)
	for _, text := range texts() {
		sig := signed(t, k, 3, text)
		for _, other := range append(texts(), text+"\x00", "\x00"+text, text+text+"t", "A text") {
			if got := keys.Verify(k.Node(), 3, other, sig); got != (other == text) {
				t.Errorf("%.20q (%d bytes), %.20q (%d bytes): %v", text, len(text), other, len(other), got)
			}
		}
	}
}

// P6.1: Verify is false for another index than the one that signed, be it one of the keys or not.
func TestVerifyOfOtherIndices(t *testing.T) {
	k := made(t, "seed", 4)
	for index := range k.Count() {
		sig := signed(t, k, index, "a text")
		others := []int{16, 17, 31, index + 16, index - 16, index + 256, index + 1<<32, -index - 1, -1, -2, -16, top, bottom, bottom + index}
		for other := range k.Count() {
			others = append(others, other)
		}
		for _, other := range others {
			if got := keys.Verify(k.Node(), other, "a text", sig); got != (other == index) {
				t.Errorf("index %d by %d: %v", other, index, got)
			}
		}
	}
}

// P6.1: Verify is false for another root than that of the keys that signed: a changed one, and those of other keys.
func TestVerifyOfOtherRoots(t *testing.T) {
	k := made(t, "seed", 3)
	sig := signed(t, k, 5, "a text")
	roots := []api.Elem{{}, filled(0xff), made(t, "seee", 3).Node().Root, made(t, "", 3).Node().Root, made(t, "seed", 2).Node().Root, made(t, "seed", 4).Node().Root}
	for at := range 16 {
		changed := k.Node().Root
		changed[at] ^= 1
		roots = append(roots, changed)
	}
	for _, root := range roots {
		if keys.Verify(api.Node{Root: root, Height: 3}, 5, "a text", sig) {
			t.Errorf("root %x", root)
		}
	}
}

// P6.1: Verify is false for another height than that of the keys that signed.
func TestVerifyOfOtherKeys(t *testing.T) {
	for height := 1; height <= 5; height++ {
		k := made(t, "seed", height)
		for other := 1; other <= 8; other++ {
			sig := signed(t, k, 1, "a text")
			fitted := (sig + strings.Repeat("\x00", 16*8))[:560+16*other]
			n := api.Node{Root: k.Node().Root, Height: other}
			if keys.Verify(n, 1, "a text", sig) != (other == height) || keys.Verify(n, 1, "a text", fitted) != (other == height) {
				t.Errorf("height %d by %d", other, height)
			}
		}
	}
}

// P6.1: Verify is false for a signature of the root, or of a text that isn't its digest's: the digest of the index's own root and text is what is signed.
func TestVerifyOfOtherDigests(t *testing.T) {
	var chance row = 37
	path := chance.texts(3)
	root := climbed(leafOf("seed", 5), 5, path)
	n := api.Node{Root: api.Elem([]byte(root)), Height: 3}
	for _, d := range []string{digestOf(root, 4, "a text"), digestOf(root, 0, "a text"), digestOf(chance.text(16), 5, "a text"), digestOf(root, 5, ""),
		half("word", root, number(5), "a text"), half("a text"), half("text", root, "a text"), half("text", root+number(5)+"a text"), root, chance.text(16)} {
		sig := reached("seed", 5, digitsOf(d)) + strings.Join(path, "")
		if keys.Verify(n, 5, "a text", sig) {
			t.Errorf("a signature of %x verifies", d)
		}
	}
}

// P6.1: Verify is false for bytes that nobody signed.
func TestVerifyOfAnyBytes(t *testing.T) {
	var chance row = 41
	for height := 1; height <= 8; height++ {
		for _, sig := range []string{strings.Repeat("\x00", 560+16*height), strings.Repeat("\xff", 560+16*height), chance.text(560 + 16*height)} {
			for _, root := range []api.Elem{{}, rising(), filled(0xff)} {
				if keys.Verify(api.Node{Root: root, Height: height}, 0, "a text", sig) {
					t.Errorf("height %d: %.1x..", height, sig)
				}
			}
		}
	}
	if keys.Verify(api.Node{}, 0, "", "") {
		t.Error("nothing verifies")
	}
}
