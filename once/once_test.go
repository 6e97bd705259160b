package once_test

import (
	"crypto/sha256"
	"encoding/hex"
	"math"
	"strings"
	"testing"

	"tribunal/api"
	"tribunal/once"
	"tribunal/steps"
)

// negatives are numbers that are encoded as 0.
func negatives() []int {
	return []int{-1, -5, -256, -1 << 32, math.MinInt64 + 1, math.MinInt64}
}

// P4.1: Size is the bytes of 35 elements.
func TestSize(t *testing.T) {
	if once.Size != 560 {
		t.Errorf("%d", once.Size)
	}
}

// P4.1: Secret, beside elements that another program computed.
func TestSecretKnown(t *testing.T) {
	for _, c := range []struct {
		seed         string
		index, chain int
		want         string
	}{
		{"", 0, 0, "b78c631e9fc3db784a6acc716b1f1137"},
		{"seed", 3, 7, "cdb784e9d8ca51c00e685387ad2fbfe9"},
		{"seed", 7, 3, "d8c9846486569bb9848f2a400cca96d6"},
		{"seed", 255, 34, "ee67bbcf552b2e027ce3809523809e17"},
		{"seed", 256, 34, "de8343b56c84c0c7d5a9f533d2237b2b"},
		{"\x00\xff", 1, 0, "52e1dfa3fd3a974f5ce770e5442f068e"},
		{"seed", top, top, "9b23cfe38ce252212be273a40c7ec764"},
	} {
		x := once.Secret(c.seed, steps.Place{Index: c.index, Chain: c.chain})
		if got := hex.EncodeToString(x[:]); got != c.want {
			t.Errorf("%q, %d, %d: %s, want %s", c.seed, c.index, c.chain, got, c.want)
		}
	}
}

// P4.1: Secret hashes the seed, the index and the chain, each as a part of its own; no two of these have one secret.
func TestSecretOfAllKinds(t *testing.T) {
	seen := map[api.Elem]bool{}
	for _, seed := range seeds() {
		for _, index := range indices() {
			for _, chain := range []int{0, 1, 2, 33, 34, 35, 255, 256, top} {
				got := once.Secret(seed, steps.Place{Index: index, Chain: chain})
				if want := secretOf(seed, index, chain); string(got[:]) != want {
					t.Errorf("%q, %d, %d: %x, want %x", seed, index, chain, got, want)
				}
				if seen[got] {
					t.Errorf("%q, %d, %d: another place has this secret", seed, index, chain)
				}
				seen[got] = true
			}
		}
	}
}

// P4.1: a negative index, or chain, is encoded as 0 in a secret.
func TestSecretOfNegativePlace(t *testing.T) {
	for _, seed := range seeds() {
		for _, n := range negatives() {
			for _, c := range []struct{ p, want steps.Place }{
				{steps.Place{Index: n, Chain: 7}, steps.Place{Index: 0, Chain: 7}},
				{steps.Place{Index: 3, Chain: n}, steps.Place{Index: 3, Chain: 0}},
				{steps.Place{Index: n, Chain: n}, steps.Place{Index: 0, Chain: 0}},
			} {
				got := once.Secret(seed, c.p)
				if want := secretOf(seed, c.want.Index, c.want.Chain); string(got[:]) != want {
					t.Errorf("%q, %+v: %x, want %x", seed, c.p, got, want)
				}
			}
		}
	}
}

// P4.1: Leaf, beside elements that another program computed.
func TestLeafKnown(t *testing.T) {
	for _, c := range []struct {
		seed  string
		index int
		want  string
	}{
		{"", 0, "8c9ebf5877047c2d540e84f61b0aceef"},
		{"seed", 0, "65a5b5056ba8facc19f48824652bc552"},
		{"seed", 5, "2498c5ead8d2e14c7e1d87b318daf609"},
		{"seed", 255, "8d8cda05a4267328dfad254f273e13c0"},
		{"seed", 256, "0a62b4ff3cfce1a7bd274eeb581712a7"},
		{"seed", top, "ec26e3b9e705be089c964ca1a444e18c"},
		{"\x00", 5, "ed89e928c3ec8bea2fde7869f6a32e91"},
		{strings.Repeat("s", 64), 5, "462235689c6db8960c74a587930b5ae5"},
		{strings.Repeat("s", 65), 5, "b7baa5e5f21d99be19db387cb67bf845"},
	} {
		x := once.Leaf(c.seed, c.index)
		if got := hex.EncodeToString(x[:]); got != c.want {
			t.Errorf("%q, %d: %s, want %s", c.seed, c.index, got, c.want)
		}
	}
}

// P4.1: Leaf hashes the ends of all chains, and the index; no two seeds or indices have one public key.
func TestLeafOfAllKinds(t *testing.T) {
	seen := map[api.Elem]bool{}
	for _, seed := range seeds() {
		for _, index := range indices() {
			got := once.Leaf(seed, index)
			if want := leafOf(seed, index); string(got[:]) != want {
				t.Errorf("%q, %d: %x, want %x", seed, index, got, want)
			}
			if seen[got] {
				t.Errorf("%q, %d: another one has this public key", seed, index)
			}
			seen[got] = true
		}
	}
}

// P4.1: Sign, beside signatures that another program computed: their digests, first and last elements.
func TestSignKnown(t *testing.T) {
	for _, c := range []struct {
		seed              string
		index             int
		d                 api.Elem
		first, last, hash string
	}{
		{"", 0, filled(0), "b78c631e9fc3db784a6acc716b1f1137", "bbcdfb634e04dfe8d9d2a3695c52c3f6",
			"9b6d38644f101fec7d5c6266c5a006df7f56787fb90e898c51c50c00601cb427"},
		{"seed", 5, filled(0), "a93736a6bc22c36f51ab402169c3a8eb", "71d78ec07b8233fc1ee3cb636433f6a0",
			"f2a24916a8d384bd1bff0833e9b2aa764a7e695c8db5248fde09d8297d9ff1c6"},
		{"seed", 5, filled(0xff), "096051829352dd45cac91e94337f2db5", "71d78ec07b8233fc1ee3cb636433f6a0",
			"ccdc40da16268511a8aa0ef895d58a9c5096db7abec9b9f8ec7dd78e58012fb7"},
		{"seed", 5, rising(), "a93736a6bc22c36f51ab402169c3a8eb", "bb70ba822c5e9ec4b3716135b5b52663",
			"27364dd58ff924864baac9196530c765560ae31d57009a3dea04b43443852c13"},
		{"seed", top, rising(), "cd0c79569a8db29635b8c88bf95ff756", "f0ea0468715df2eb42a4570d49381ded",
			"f0875be8369bef9a60db74ace7e45f41f1ad0c80f7cea597d1231471de3748de"},
	} {
		sig := once.Sign(c.seed, c.index, c.d)
		if len(sig) != once.Size {
			t.Errorf("%q, %d, %x: %d bytes", c.seed, c.index, c.d, len(sig))
			continue
		}
		hash := sha256.Sum256([]byte(sig))
		if hexOf(sig[:16]) != c.first || hexOf(sig[544:]) != c.last || hexOf(string(hash[:])) != c.hash {
			t.Errorf("%q, %d, %x: %x", c.seed, c.index, c.d, sig)
		}
	}
}

// P4.1: Sign walks each chain from its secret to its digit: for all seeds and indices, and digits of all kinds.
func TestSignOfAllKinds(t *testing.T) {
	for _, seed := range seeds() {
		for i, index := range indices() {
			d := elements()[i%len(elements())]
			if got, want := once.Sign(seed, index, d), signatureOf(seed, index, d); got != want {
				t.Errorf("%q, %d, %x: %x, want %x", seed, index, d, got, want)
			}
		}
	}
	for _, d := range elements() {
		if got, want := once.Sign("seed", 5, d), signatureOf("seed", 5, d); got != want {
			t.Errorf("%x: %x, want %x", d, got, want)
		}
	}
}

// P4.1: the zero element's halves are signed by the secrets, those of all ones by the ends.
func TestSignatureOfEnds(t *testing.T) {
	low, high := once.Sign("seed", 5, filled(0)), once.Sign("seed", 5, filled(0xff))
	for chain := range 32 {
		secret := secretOf("seed", 5, chain)
		if got := low[16*chain : 16*chain+16]; got != secret {
			t.Errorf("chain %d: %x, want %x", chain, got, secret)
		}
		end := walked(secret, 5, chain, 0, 15)
		if got := high[16*chain : 16*chain+16]; got != end {
			t.Errorf("chain %d: %x, want %x", chain, got, end)
		}
	}
}

// P4.1: a negative index is encoded as 0 in public keys and signatures, and by Meet.
func TestNegativeIndex(t *testing.T) {
	for _, n := range negatives() {
		if got := once.Leaf("seed", n); string(got[:]) != leafOf("seed", 0) {
			t.Errorf("%d: %x", n, got)
		}
		for _, d := range elements() {
			sig := once.Sign("seed", n, d)
			if sig != signatureOf("seed", 0, d) {
				t.Errorf("%d, %x: %x", n, d, sig)
			}
			if got, e := once.Meet(sig, n, d); e != api.OK || string(got[:]) != leafOf("seed", 0) {
				t.Errorf("%d, %x: %x, %d", n, d, got, e)
			}
		}
	}
}

// P4.1: what a call returns hangs on its arguments alone.
func TestKeepsNothing(t *testing.T) {
	d := rising()
	sig, leaf := once.Sign("seed", 5, d), once.Leaf("seed", 5)
	once.Sign("deed", 6, filled(9))
	once.Leaf("deed", 5)
	once.Meet(sig, 9, filled(9))
	if once.Sign("seed", 5, d) != sig || once.Leaf("seed", 5) != leaf || d != rising() {
		t.Error("one signature, or public key, is two")
	}
}
