package tree_test

import (
	"slices"
	"testing"

	"tribunal/api"
	"tribunal/tree"
)

// P5.1: Up, beside elements that another program computed.
func TestUpKnown(t *testing.T) {
	zero, ones, x := api.Elem{}, filled(0xff), rising()
	for _, c := range []struct {
		left, right  api.Elem
		level, index int
		want         string
	}{
		{zero, zero, 1, 0, "66cc68a91d00915f8f4d021c0f5c5a3f"},
		{zero, zero, 0, 0, "7107a7dc8746de25f1b91e62dfa2a172"},
		{zero, zero, 0, 1, "6910ceaba32ec5bf2b26bb19a9d177ac"},
		{zero, x, 1, 0, "c5a1e193ce43b6c332bb0f8c57f0fcaf"},
		{x, zero, 1, 0, "0cf644e8400a63fef690a03906c41937"},
		{x, ones, 3, 7, "6fbd35f96d7ec75b3c14ca1660ec0ccd"},
		{x, ones, 7, 3, "76f171f7f5d779ce9f87c2bc431f0c4a"},
		{x, ones, 8, 0, "0000f941cb48702f0fbd7e3df54af96e"},
		{x, ones, 1, 127, "da3d289a8c93a74eccd249085200956d"},
		{x, ones, 1, 128, "bb4cc8a0a18a2d3389e41bb9d0c5b94e"},
		{x, ones, 256, 255, "672ba6926a00e211f43bdca52e4ab56f"},
		{x, ones, 255, 256, "3df7442745c3991beffe64fbf748247e"},
		{x, ones, top, top, "90d5f9df20a51a13ad7e37ad58d63a41"},
		{x, ones, -1, 7, "9283d9a1a01bad61c98e503491fff515"},
		{x, ones, 3, -1, "24daca7f6260c9eee9de6d6b4262b935"},
		{x, ones, bottom, bottom, "a5b4e6476cfaa036a5b82322b95a4618"},
	} {
		if got := hexOf(tree.Up(c.left, c.right, c.level, c.index)); got != c.want {
			t.Errorf("%x, %x, %d, %d: %s, want %s", c.left, c.right, c.level, c.index, got, c.want)
		}
	}
}

// P5.1: Up hashes both elements in their order, the level and the index; no two of these have one parent.
func TestUpOfAllKinds(t *testing.T) {
	var chance row = 3
	elems := append(chance.elems(2), api.Elem{}, filled(0xff), rising(), api.Elem{15: 1})
	seen := map[api.Elem]bool{}
	for _, left := range elems {
		for _, right := range elems {
			for _, level := range []int{0, 1, 2, 7, 8, 9, 255, 256, 1 << 32, top - 1, top} {
				for _, index := range []int{0, 1, 2, 127, 128, 255, 256, 65536, 1 << 32, top - 1, top} {
					got := tree.Up(left, right, level, index)
					if want := parentOf(left, right, level, index); got != want {
						t.Errorf("%x, %x, %d, %d: %x, want %x", left, right, level, index, got, want)
					}
					if seen[got] {
						t.Errorf("%x, %x, %d, %d: another pair, or place, has this parent", left, right, level, index)
					}
					seen[got] = true
				}
			}
		}
	}
}

// P5.1: Up encodes a negative level, or index, as 0.
func TestUpOfNegativeNumbers(t *testing.T) {
	x, y := rising(), filled(9)
	for _, n := range []int{-1, -2, -256, -1 << 32, bottom + 1, bottom} {
		for _, c := range []struct{ level, index, asLevel, asIndex int }{
			{n, 0, 0, 0}, {n, 5, 0, 5}, {n, top, 0, top},
			{0, n, 0, 0}, {5, n, 5, 0}, {top, n, top, 0},
			{n, n, 0, 0}, {n, -1, 0, 0},
		} {
			got := tree.Up(x, y, c.level, c.index)
			if want := parentOf(x, y, c.asLevel, c.asIndex); got != want {
				t.Errorf("%d, %d: %x, want %x", c.level, c.index, got, want)
			}
		}
	}
}

// P5.1: Root, beside elements that another program computed: of leaves that differ, and of leaves that are equal.
func TestRootKnown(t *testing.T) {
	for i, c := range []struct{ differ, equal string }{
		{"00000000000000000000000000000000", "000102030405060708090a0b0c0d0e0f"},
		{"dc8f6f4994d5087c01b91d28788c33ae", "4ae435381a222748b04b89f733afbcfd"},
		{"bc2d6ffca76920cec6d247d2d1aa3b3d", "ac1a0bf8e7308e390572a14fd950ad14"},
		{"dfa33d95d4080bde0cb6f0f3522045c2", "19ab780b593d64e3fd2ed0fd28389c30"},
		{"1d3545db8c1d0ea5d5d4ab9c08868359", "c255c3d2b6c9d447ad2bfd23314e8f1f"},
		{"d8c9c2e6d979c7a00840ba99380098f5", "52c9230f18f32754c874fc04e0aeb48a"},
		{"1b199a3e0883c0398e07d95c45e0a360", "04f3856d6c2211e7bf9ea69c6bc11383"},
		{"dce31898b9c5998868e9c5d098e66789", "ede16f979f8107812344b94001851b5f"},
		{"93a275b65a5e24a2215102e4435afc68", "603aae22624977ec5fdd92bed919688c"},
	} {
		count := counts()[i]
		if got, e := tree.Root(numbered(0, count)...); e != api.OK || hexOf(got) != c.differ {
			t.Errorf("%d leaves that differ: %x, %d, want %s", count, got, e, c.differ)
		}
		if got, e := tree.Root(equal(rising(), count)...); e != api.OK || hexOf(got) != c.equal {
			t.Errorf("%d equal leaves: %x, %d, want %s", count, got, e, c.equal)
		}
	}
}

// P5.1: Root is the only element of the last level: for all numbers of leaves, and leaves of all kinds.
func TestRootOfAllKinds(t *testing.T) {
	for _, count := range counts() {
		for _, leaves := range leavesOfAllKinds(count) {
			got, e := tree.Root(leaves...)
			if want := elementOf(leaves, heightOf(count), 0); e != api.OK || got != want {
				t.Errorf("%d leaves, %x first: %x, %d, want %x", count, leaves[0], got, e, want)
			}
		}
	}
}

// P5.1: the root of one leaf is the leaf itself.
func TestRootOfOneLeaf(t *testing.T) {
	for _, x := range []api.Elem{{}, rising(), filled(0xff)} {
		if got, e := tree.Root(x); e != api.OK || got != x {
			t.Errorf("%x: %x, %d", x, got, e)
		}
	}
}

// P5.1: each leaf plays its part in the root, at its own place.
func TestRootOfOtherLeaves(t *testing.T) {
	for _, count := range counts() {
		leaves := numbered(0, count)
		root, _ := tree.Root(leaves...)
		for i := range leaves {
			changed := slices.Clone(leaves)
			changed[i][i%16] ^= 0x80
			if got, e := tree.Root(changed...); e != api.OK || got == root {
				t.Errorf("%d leaves: leaf %d plays no part", count, i)
			}
			moved := slices.Clone(leaves)
			moved[0], moved[i] = moved[i], moved[0]
			if got, e := tree.Root(moved...); e != api.OK || (got == root) != (i == 0) {
				t.Errorf("%d leaves: leaf %d has no place of its own", count, i)
			}
		}
	}
}

// P5.1: Root returns ErrArg, and the zero element, for each number of leaves that is not permitted.
func TestRootOfOtherCounts(t *testing.T) {
	for _, count := range others() {
		for _, leaves := range [][]api.Elem{numbered(1, count), equal(rising(), count)} {
			if got, e := tree.Root(leaves...); e != api.ErrArg || got != (api.Elem{}) {
				t.Errorf("%d leaves: %x, %d", count, got, e)
			}
		}
	}
	if got, e := tree.Root(); e != api.ErrArg || got != (api.Elem{}) {
		t.Errorf("no leaves: %x, %d", got, e)
	}
	if got, e := tree.Root([]api.Elem{}...); e != api.ErrArg || got != (api.Elem{}) {
		t.Errorf("an empty slice: %x, %d", got, e)
	}
}

// P5.1: no call changes the leaves or the path that it is given, nor what lies behind them in their memory.
func TestChangesNothing(t *testing.T) {
	for _, count := range append(counts(), 3, 255) {
		memory := numbered(3, 2*count+8)
		before := slices.Clone(memory)
		tree.Root(memory[:count]...)
		tree.Path(count-1, memory[:count]...)
		tree.Climb(memory[count], count-1, memory[:count]...)
		if !slices.Equal(memory, before) {
			t.Errorf("%d elements are changed", count)
		}
	}
}

// P5.1: what a call returns hangs on its arguments alone, and is memory of its own.
func TestKeepsNothing(t *testing.T) {
	leaves := numbered(1, 8)
	want := pathOf(leaves, 5)
	root, _ := tree.Root(leaves...)
	path, _ := tree.Path(5, leaves...)
	other, _ := tree.Path(5, leaves...)
	leaves[4], leaves[6] = filled(99), filled(99)
	if !slices.Equal(path, want) {
		t.Errorf("a path changes with its leaves: %x, want %x", path, want)
	}
	path[0], path[2] = filled(77), filled(77)
	path = append(path, filled(77))
	if !slices.Equal(other, want) || leaves[4] != filled(99) {
		t.Errorf("a path changes with another one: %x, want %x", other, want)
	}
	tree.Climb(filled(1), 3, path...)
	again, e := tree.Path(5, numbered(1, 8)...)
	if !slices.Equal(again, want) || e != api.OK {
		t.Errorf("one path is two: %x, want %x", again, want)
	}
	if got, e := tree.Root(numbered(1, 8)...); got != root || e != api.OK {
		t.Errorf("one root is two: %x, want %x", got, root)
	}
}
