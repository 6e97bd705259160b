package sha_test

import (
	"crypto/sha256"
	"encoding/hex"
	"slices"
	"strings"
	"testing"

	"tribunal/api"
	"tribunal/pack"
	"tribunal/sha"
)

// digest is a string beside the hexadecimal digits of its digest, as published or made by other programs.
type digest struct{ s, hex string }

func digests() []digest {
	return []digest{
		{"", "e3b0c44298fc1c149afbf4c8996fb92427ae41e4649b934ca495991b7852b855"},
		{"abc", "ba7816bf8f01cfea414140de5dae2223b00361a396177a9cb410ff61f20015ad"},
		{"\xbd", "68325720aabd7c82f30f554b313d0570c95accbb7dc4b5aae11204c08ffe732b"},
		{"abcdbcdecdefdefgefghfghighijhijkijkljklmklmnlmnomnopnopq",
			"248d6a61d20638b8e5c026930c3e6039a33ce45964ff2167f6ecedd419db06c1"},
		{"abcdefghbcdefghicdefghijdefghijkefghijklfghijklmghijklmnhijklmnoijklmnopjklmnopqklmnopqrlmnopqrsmnopqrstnopqrstu",
			"cf5b16a778af8380036ce59e7b0492370b249b11e8f07a51afac45037afee9d1"},
		{strings.Repeat("\x00", 55), "02779466cdec163811d078815c633f21901413081449002f24aa3e80f0b88ef7"},
		{strings.Repeat("\x00", 56), "d4817aa5497628e7c77e6b606107042bbba3130888c5f47a375e6179be789fbb"},
		{strings.Repeat("\x00", 63), "c7723fa1e0127975e49e62e753db53924c1bd84b8ac1ac08df78d09270f3d971"},
		{strings.Repeat("\x00", 64), "f5a5fd42d16a20302798ef6ed309979b43003d2320d9f0e8ea9831a92759fb4b"},
		{strings.Repeat("a", 1000), "41edece42d63e8d9bf515a9ba6932e1c20cbc9f5a5d134645adb5db1b9737ea3"},
		{strings.Repeat("a", 1000000), "cdc76e5c9914fb9281a1c7e284d73e67f1809a48a497200e046d39ccc7112cd0"},
	}
}

// mixed returns n bytes that look like chance, the same ones in each run.
func mixed(n int) string {
	b := make([]byte, n)
	x := uint64(n)
	for i := range b {
		x = x*6364136223846793005 + 1442695040888963407
		b[i] = byte(x >> 56)
	}
	return string(b)
}

// P2.1: Of, for digests that are known, of nothing, one block, several, and about the ends of blocks.
func TestOf(t *testing.T) {
	for _, c := range digests() {
		d := sha.Of(c.s)
		if got := hex.EncodeToString(d[:]); got != c.hex {
			t.Errorf("%d bytes, %.20q: %s, want %s", len(c.s), c.s, got, c.hex)
		}
	}
}

// P2.1: Of, for all lengths up to several blocks, 55, 56, 63, 64, 119 and 120 among them, and bytes of all kinds.
func TestOfEachLength(t *testing.T) {
	for n := range 700 {
		for _, s := range []string{mixed(n), strings.Repeat("\x00", n), strings.Repeat("\xff", n), strings.Repeat("\x80", n)} {
			if got := sha.Of(s); got != sha256.Sum256([]byte(s)) {
				t.Errorf("%d bytes, %.4x: %s", n, s, sha.Hex(got))
			}
		}
	}
}

// P2.1: Of, for lengths whose number of bits takes one byte more.
func TestOfLong(t *testing.T) {
	for _, n := range []int{1<<13 - 1, 1 << 13, 1<<21 - 1, 1 << 21, 1<<21 + 55, 1<<21 + 56} {
		s := mixed(n)
		if got := sha.Of(s); got != sha256.Sum256([]byte(s)) {
			t.Errorf("%d bytes: %s", n, sha.Hex(got))
		}
	}
}

// P2.1: Of, called again, whatever was asked between, returns the same digest.
func TestOfKeepsNothing(t *testing.T) {
	first := sha.Of("abc")
	sha.Of(mixed(100))
	sha.Sum("p", "abc")
	if sha.Of("abc") != first {
		t.Error("abc has two digests")
	}
}

// P2.1: Sum hashes the encoding of the list, with its bytes written out.
func TestSum(t *testing.T) {
	for _, c := range []struct {
		purpose string
		parts   []string
		bytes   string
	}{
		{"", nil, "\x01\x01\x00"},
		{"p", nil, "\x01\x01\x01\x01p"},
		{"p", []string{}, "\x01\x01\x01\x01p"},
		{"p", []string{""}, "\x01\x02\x01\x01p\x00"},
		{"", []string{""}, "\x01\x02\x00\x00"},
		{"p", []string{"a", "b"}, "\x01\x03\x01\x01p\x01\x01a\x01\x01b"},
		{"leaf", []string{"\x00", strings.Repeat("z", 300)}, "\x01\x03\x01\x04leaf\x01\x01\x00\x02\x01\x2c" + strings.Repeat("z", 300)},
	} {
		if got := sha.Sum(c.purpose, c.parts...); got != sha256.Sum256([]byte(c.bytes)) {
			t.Errorf("%q, %.20q: %s", c.purpose, c.parts, sha.Hex(got))
		}
	}
}

// P2.1: Sum, for more parts and more bytes than a reader of lists takes.
func TestSumBeyondReader(t *testing.T) {
	for _, parts := range [][]string{
		make([]string, api.MaxParts-1),
		make([]string, api.MaxParts),
		make([]string, api.MaxParts+1),
		{mixed(api.MaxText), mixed(api.MaxText + 1)},
	} {
		list := pack.List(slices.Concat([]string{"p"}, parts)...)
		if got := sha.Sum("p", parts...); got != sha256.Sum256([]byte(list)) {
			t.Errorf("%d parts: %s", len(parts), sha.Hex(got))
		}
	}
}

// P2.1: Sum leaves its parts and what lies behind them as they are.
func TestSumChangesNothing(t *testing.T) {
	all := []string{"a", "b", "c", "d"}
	sha.Sum("p", all[:2]...)
	if !slices.Equal(all, []string{"a", "b", "c", "d"}) {
		t.Errorf("%q", all)
	}
}

// P2.2: other purposes, other parts, and the same parts cut otherwise have other digests.
func TestSumsDiffer(t *testing.T) {
	texts := []string{"", "\x00", "\x01", "\x01\x01", "a", "b", "ab", "\x01\x01a", "\x00\x00"}
	lists := [][]string{}
	for _, purpose := range texts {
		lists = append(lists, []string{purpose})
		for _, a := range texts {
			lists = append(lists, []string{purpose, a})
			for _, b := range texts {
				lists = append(lists, []string{purpose, a, b})
			}
		}
	}
	seen := map[api.Id][]string{}
	for _, list := range lists {
		d := sha.Sum(list[0], list[1:]...)
		if other, ok := seen[d]; ok {
			t.Errorf("%q and %q", list, other)
		}
		seen[d] = list
	}
}

// P2.2: a purpose isn't a part: neither moves to the other's place, nor is a digest without purpose the same.
func TestPurposeParts(t *testing.T) {
	for _, c := range []struct {
		what string
		a, b api.Id
	}{
		{"another purpose", sha.Sum("p", "a", "b"), sha.Sum("q", "a", "b")},
		{"the purpose as a part", sha.Sum("p", "a"), sha.Sum("a", "p")},
		{"an empty purpose", sha.Sum("p", "a"), sha.Sum("", "p", "a")},
		{"parts in another order", sha.Sum("p", "a", "b"), sha.Sum("p", "b", "a")},
		{"parts joined", sha.Sum("p", "a", "b"), sha.Sum("p", "ab")},
		{"parts cut elsewhere", sha.Sum("p", "ab", "c"), sha.Sum("p", "a", "bc")},
		{"the purpose cut elsewhere", sha.Sum("pa", "b"), sha.Sum("p", "ab")},
		{"an empty part", sha.Sum("p"), sha.Sum("p", "")},
		{"an empty part more", sha.Sum("p", "", "a"), sha.Sum("p", "a", "")},
		{"a list as a part", sha.Sum("p", pack.List("a", "b")), sha.Sum("p", "a", "b")},
		{"no purpose", sha.Sum("", "a"), sha.Of("a")},
		{"no purpose, no part", sha.Sum(""), sha.Of("")},
	} {
		if c.a == c.b {
			t.Errorf("%s: %s", c.what, sha.Hex(c.a))
		}
	}
}

// P2.1: Cut, for a digest of zeros, of ones, and of bytes that all differ.
func TestCut(t *testing.T) {
	var ones, rising api.Id
	for i := range ones {
		ones[i] = 0xff
		rising[i] = byte(i)
	}
	for _, c := range []struct {
		d    api.Id
		want string
	}{
		{api.Id{}, "00000000000000000000000000000000"},
		{ones, "ffffffffffffffffffffffffffffffff"},
		{rising, "000102030405060708090a0b0c0d0e0f"},
		{sha.Of("abc"), "ba7816bf8f01cfea414140de5dae2223"},
	} {
		e := sha.Cut(c.d)
		if got := hex.EncodeToString(e[:]); got != c.want {
			t.Errorf("%x: %s, want %s", c.d, got, c.want)
		}
	}
}

// P2.1: Hex, for a digest of zeros, of ones, and of each byte there is.
func TestHex(t *testing.T) {
	var d api.Id
	if got := sha.Hex(d); got != strings.Repeat("00", 32) {
		t.Errorf("zeros: %s", got)
	}
	for i := range d {
		d[i] = 0xff
	}
	if got := sha.Hex(d); got != strings.Repeat("ff", 32) {
		t.Errorf("ones: %s", got)
	}
	if got, want := sha.Hex(api.Id{0x0f, 0xf0, 0x9a, 31: 0x01}), "0ff09a"+strings.Repeat("00", 28)+"01"; got != want {
		t.Errorf("%s, want %s", got, want)
	}
	for first := 0; first < 256; first += len(d) {
		for i := range d {
			d[i] = byte(first + i)
		}
		if got, want := sha.Hex(d), hex.EncodeToString(d[:]); got != want {
			t.Errorf("%s, want %s", got, want)
		}
	}
	if got := sha.Hex(sha.Of("abc")); !strings.HasPrefix(got, "ba7816bf") {
		t.Errorf("abc: %s", got)
	}
}
