package tree_test

import (
	"slices"
	"testing"

	"tribunal/api"
	"tribunal/tree"
)

// P5.1: Path, beside elements that another program computed: the lowest level first, without the root.
func TestPathKnown(t *testing.T) {
	want := []string{"04040404040404040404040404040404", "a8f4f0ebd27804689d17993682b5c8c3", "bc2d6ffca76920cec6d247d2d1aa3b3d"}
	path, e := tree.Path(5, numbered(0, 8)...)
	var got []string
	for _, x := range path {
		got = append(got, hexOf(x))
	}
	if e != api.OK || !slices.Equal(got, want) {
		t.Errorf("%v, %d, want %v", got, e, want)
	}
}

// P5.1: Path is the siblings on the way up: for each leaf of all trees.
func TestPathOfAllKinds(t *testing.T) {
	for _, count := range counts() {
		for kind, leaves := range leavesOfAllKinds(count) {
			// In the greatest trees every leaf is asked for one kind of leaves alone, since the reference computes each path afresh.
			step := 1
			if kind > 0 && count > 32 {
				step = 17
			}
			for at := 0; at < count; at += step {
				got, e := tree.Path(at, leaves...)
				if want := pathOf(leaves, at); e != api.OK || !slices.Equal(got, want) {
					t.Errorf("leaf %d of %d: %x, %d, want %x", at, count, got, e, want)
				}
			}
		}
	}
}

// P5.1: the path of the only leaf is empty.
func TestPathOfOneLeaf(t *testing.T) {
	if path, e := tree.Path(0, rising()); e != api.OK || len(path) != 0 {
		t.Errorf("%x, %d", path, e)
	}
}

// P5.1: Path returns ErrArg, and no path, for each number of leaves that is not permitted, be the index one of theirs or not.
func TestPathOfOtherCounts(t *testing.T) {
	for _, count := range others() {
		leaves := numbered(1, count)
		for _, at := range []int{bottom, -1, 0, 1, count / 2, count - 1, count, count + 1, top} {
			if path, e := tree.Path(at, leaves...); e != api.ErrArg || len(path) != 0 {
				t.Errorf("leaf %d of %d: %x, %d", at, count, path, e)
			}
		}
	}
	if path, e := tree.Path(0); e != api.ErrArg || len(path) != 0 {
		t.Errorf("no leaves: %x, %d", path, e)
	}
}

// P5.1: Path returns ErrArg, and no path, for an index that none of the leaves has.
func TestPathOfNoLeaf(t *testing.T) {
	for _, count := range counts() {
		leaves := numbered(1, count)
		for _, at := range []int{bottom, bottom + 1, -1 << 32, -256, -count - 1, -count, -2, -1, count, count + 1, 2*count + 1, 1 << 32, top - 1, top} {
			if path, e := tree.Path(at, leaves...); e != api.ErrArg || len(path) != 0 {
				t.Errorf("leaf %d of %d: %x, %d", at, count, path, e)
			}
		}
	}
}

// P5.1: Climb, beside elements that another program computed: even, odd, negative and great indices, paths of many lengths.
func TestClimbKnown(t *testing.T) {
	for _, c := range []struct {
		at, length int
		want       string
	}{
		{0, 0, "000102030405060708090a0b0c0d0e0f"},
		{-1, 0, "000102030405060708090a0b0c0d0e0f"},
		{0, 1, "943b0aab536c6767d424de7f171fbdb4"},
		{1, 1, "8c0ba7e6926b73ffae10fe40355479d4"},
		{2, 1, "1dfb4a3b86d5d6205ca1a0082628495a"},
		{-1, 1, "8c0ba7e6926b73ffae10fe40355479d4"},
		{-2, 1, "943b0aab536c6767d424de7f171fbdb4"},
		{-3, 2, "f5b05d17e578cc96207d5a5f081abaee"},
		{5, 3, "45e4a0d07f94cd9ac68b6839cd2e527b"},
		{13, 3, "4b7644f78490ddcee7f4d3cd5138aa48"},
		{255, 8, "0aa6fb6a19974a141bea002c5b8ec8ec"},
		{256, 8, "81b5e5c9f52c8f7106b202483567e7a1"},
		{300, 12, "274a1df49d824a75cf15819471791115"},
		{top, 3, "903329de648559f8248c3f0892a66b32"},
		{top, 70, "83179723e07f726cab75dbb014d3484d"},
		{bottom, 3, "17b4480d7437470448854ed926de74be"},
		{bottom, 70, "d96201a67005330917269078c1a9f558"},
		{bottom + 1, 70, "6466bdb25df77753b644661a51a72b3e"},
		{top - 1, 64, "876702ebd8d2b564a4f48f85a4487edd"},
	} {
		if got := hexOf(tree.Climb(rising(), c.at, numbered(1, c.length)...)); got != c.want {
			t.Errorf("from %d by %d siblings: %s, want %s", c.at, c.length, got, c.want)
		}
	}
}

// P5.1: Climb of paths of any length, from indices of all kinds: those that the path's tree has, and others.
func TestClimbOfAllKinds(t *testing.T) {
	var chance row = 11
	indices := []int{255, 256, 257, 65535, 65536, 1 << 32, top - 1, top, -255, -256, -257, -1 << 32, bottom + 1, bottom}
	for n := -20; n <= 20; n++ {
		indices = append(indices, n)
	}
	lengths := []int{31, 32, 62, 63, 64, 65, 100, 300}
	for n := range 20 {
		lengths = append(lengths, n)
	}
	for _, length := range lengths {
		path := chance.elems(length)
		for _, at := range indices {
			leaf := chance.elems(1)[0]
			got := tree.Climb(leaf, at, path...)
			if want := climbOf(leaf, at, path); got != want {
				t.Errorf("from %d by %d siblings: %x, want %x", at, length, got, want)
			}
		}
	}
}

// P5.1: without siblings, Climb stays with the leaf, whatever its index is.
func TestClimbNowhere(t *testing.T) {
	for _, at := range []int{bottom, -1, 0, 1, 256, top} {
		if got := tree.Climb(rising(), at); got != rising() {
			t.Errorf("from %d: %x", at, got)
		}
		if got := tree.Climb(rising(), at, []api.Elem{}...); got != rising() {
			t.Errorf("from %d by an empty path: %x", at, got)
		}
	}
}

// P5.2: Climb from each leaf with its path is the root: for all numbers of leaves, equal ones and others.
func TestClimbToRoot(t *testing.T) {
	for _, count := range counts() {
		for _, leaves := range leavesOfAllKinds(count) {
			root, e := tree.Root(leaves...)
			if e != api.OK {
				t.Fatalf("%d leaves: error %d", count, e)
			}
			for at, leaf := range leaves {
				path, e := tree.Path(at, leaves...)
				if got := tree.Climb(leaf, at, path...); e != api.OK || got != root {
					t.Errorf("leaf %d of %d: %x, %d, want %x", at, count, got, e, root)
				}
			}
		}
	}
}

// P5.2: with another leaf, another index or another path than its own, Climb is not the root.
func TestClimbElsewhere(t *testing.T) {
	for _, count := range counts()[1:] {
		leaves := numbered(0, count)
		root, _ := tree.Root(leaves...)
		for at, leaf := range leaves {
			path, _ := tree.Path(at, leaves...)
			for level := range path {
				changed := slices.Clone(path)
				changed[level][level] ^= 1
				if tree.Climb(leaf, at, changed...) == root {
					t.Errorf("leaf %d of %d: the sibling of level %d plays no part", at, count, level)
				}
				if tree.Climb(leaf, at^1<<level, path...) == root {
					t.Errorf("leaf %d of %d is at %d, too", at, count, at^1<<level)
				}
			}
			if tree.Climb(filled(at+1), at, path...) == root {
				t.Errorf("leaf %d of %d plays no part", at, count)
			}
			if tree.Climb(leaf, at, path[1:]...) == root || tree.Climb(leaf, at, append(path, root)...) == root {
				t.Errorf("leaf %d of %d: the path's length plays no part", at, count)
			}
		}
	}
}
