package chain_test

import (
	"slices"
	"strings"
	"testing"

	"tribunal/api"
	"tribunal/chain"
	"tribunal/pack"
)

// auths are authenticators that have an encoding, with each field at each of its edges.
func auths() []api.Auth {
	var list []api.Auth
	for node := range 5 {
		list = append(list, api.Auth{Node: node, Seq: 7, Hash: filled(9), Sig: "sig"})
	}
	for _, seq := range []int{0, 1, 2, 255, 256, 65535, 1 << 31, 1 << 32, 1 << 62, top - 1, top} {
		list = append(list, api.Auth{Node: 1, Seq: seq, Hash: filled(9), Sig: "sig"})
	}
	for _, hash := range prevs() {
		list = append(list, api.Auth{Node: 1, Seq: 7, Hash: hash, Sig: "sig"})
	}
	for _, size := range []int{0, 1, 16, 127, 128, 255, 256, 257, 576, 688, 1023, 1024} {
		list = append(list, api.Auth{Node: 1, Seq: 7, Hash: filled(9), Sig: strings.Repeat("\xff", size)})
	}
	return append(list, api.Auth{}, api.Auth{Node: 4, Seq: top, Hash: filled(0xff), Sig: strings.Repeat("\x00", 1024)})
}

// auth is an authenticator that has an encoding; mostly a short one.
func (r *row) auth() api.Auth {
	return api.Auth{Node: r.next(5), Seq: r.next(1 << r.next(31)), Hash: r.id(), Sig: r.text(r.next(4) * r.next(300))}
}

// numberIn is the number whose encoding is s, and nothing else; false, if there is none.
func numberIn(s string) (int, bool) {
	if s == "" || s[0] > 8 || len(s) != 1+int(s[0]) || len(s) > 1 && s[1] == 0 || len(s) == 9 && s[1] > 127 {
		return 0, false
	}
	n := 0
	for _, digit := range []byte(s[1:]) {
		n = n*256 + int(digit)
	}
	return n, true
}

// authIn is the authenticator whose encoding is s, within the limits; false, if there is none.
func authIn(s string) (api.Auth, bool) {
	list, failed := pack.Split(s)
	if failed != api.OK || len(list) != 4 || len(list[2]) != 32 || len(list[3]) > 1024 {
		return api.Auth{}, false
	}
	node, first := numberIn(list[0])
	seq, second := numberIn(list[1])
	if !first || !second || node > 4 {
		return api.Auth{}, false
	}
	return api.Auth{Node: node, Seq: seq, Hash: api.Id([]byte(list[2])), Sig: list[3]}, true
}

// read asks ReadAuth for what the reference tells of these bytes, and that what is read encodes as them; it tells whether it is an authenticator.
func read(t *testing.T, s string) bool {
	t.Helper()
	got, e := chain.ReadAuth(s)
	want, is := authIn(s)
	if got != want || (e == api.OK) != is || !is && e != api.ErrForm {
		t.Fatalf("%.100x: %s, %d, want %s, %v", s, told(got), e, told(want), is)
	}
	if is && (chain.AuthText(got) != s || authBytes(got) != s) {
		t.Fatalf("%.100x: %s encodes as %.100x", s, told(got), chain.AuthText(got))
	}
	return is
}

// none asks for ErrForm, and no authenticator.
func none(t *testing.T, s string) {
	t.Helper()
	if got, e := chain.ReadAuth(s); e != api.ErrForm || got != (api.Auth{}) {
		t.Errorf("%.100x: %s, %d", s, told(got), e)
	}
}

// P16.1: AuthText is the bytes that the chapter names.
func TestAuthText(t *testing.T) {
	want := "\x01\x04" + "\x01\x02\x01\x03" + "\x01\x03\x02\x01\x02" + "\x01\x20" + strings.Repeat("\x07", 32) + "\x01\x03sig"
	if got := chain.AuthText(api.Auth{Node: 3, Seq: 258, Hash: filled(7), Sig: "sig"}); got != want {
		t.Errorf("%x, not %x", got, want)
	}
	if got := chain.AuthText(api.Auth{}); got != "\x01\x04"+"\x01\x01\x00"+"\x01\x01\x00"+"\x01\x20"+strings.Repeat("\x00", 32)+"\x00" {
		t.Errorf("%x", got)
	}
	seen := map[string]bool{}
	for i, a := range auths() {
		got := chain.AuthText(a)
		if got != authBytes(a) {
			t.Errorf("%d: %s: %.100x", i, told(a), got)
		}
		seen[got] = true
	}
	if len(seen) != len(auths()) {
		t.Errorf("%d encodings of %d", len(seen), len(auths()))
	}
}

// P16.1: AuthText of what ReadAuth doesn't return: negative numbers count as 0, and there is no limit.
func TestAuthTextOfOthers(t *testing.T) {
	for _, n := range []int{bottom, -256, -1} {
		a := api.Auth{Node: n, Seq: n, Hash: filled(9), Sig: "sig"}
		if got := chain.AuthText(a); got != authBytes(api.Auth{Hash: filled(9), Sig: "sig"}) {
			t.Errorf("%d: %x", n, got)
		}
	}
	for _, a := range []api.Auth{{Node: 5}, {Node: top, Seq: top}, {Sig: strings.Repeat("s", 1025)}, {Sig: strings.Repeat("s", 1<<18+1)}} {
		if got := chain.AuthText(a); got != authBytes(a) {
			t.Errorf("%s: %.100x", told(a), got)
		}
		none(t, authBytes(a))
	}
}

// P16.1: ReadAuth of each encoding is the authenticator.
func TestReadAuth(t *testing.T) {
	for i, a := range auths() {
		if got, e := chain.ReadAuth(authBytes(a)); got != a || e != api.OK {
			t.Errorf("%d: %s: %s, %d", i, told(a), told(got), e)
		}
	}
}

// P16.1: ReadAuth of each beginning of an encoding, of each end, and of one with bytes more is ErrForm.
func TestReadAuthCut(t *testing.T) {
	for _, a := range auths() {
		s := authBytes(a)
		for i := range len(s) {
			none(t, s[:i])
			none(t, s[i+1:])
		}
		for b := range 256 {
			none(t, s+string([]byte{byte(b)}))
			none(t, string([]byte{byte(b)})+s)
		}
		none(t, s+s)
	}
}

// P16.1: ReadAuth of an encoding with one byte changed, or left out: an authenticator just where the reference has one.
func TestReadAuthChanged(t *testing.T) {
	count := 0
	for _, a := range auths() {
		s := authBytes(a)
		if len(s) > 80 {
			continue
		}
		for i := range len(s) {
			read(t, s[:i]+s[i+1:])
			for b := range 256 {
				if byte(b) != s[i] && read(t, s[:i]+string([]byte{byte(b)})+s[i+1:]) {
					count++
				}
			}
		}
	}
	if count < 10000 {
		t.Errorf("%d authenticators", count)
	}
}

// P16.1: ReadAuth of lists with a part too many or too few, wherever it is, is ErrForm.
func TestReadAuthOtherLists(t *testing.T) {
	for _, a := range auths() {
		list, _ := pack.Split(authBytes(a))
		if len(list) != 4 {
			t.Fatalf("%d parts", len(list))
		}
		for i := range 5 {
			for _, more := range []string{"", "\x00", "\x01\x01", "k", strings.Repeat("\x00", 32), list[i%4]} {
				none(t, pack.List(slices.Insert(slices.Clone(list), i, more)...))
			}
		}
		for i := range 4 {
			none(t, pack.List(slices.Delete(slices.Clone(list), i, i+1)...))
			none(t, pack.List(list[:i]...))
		}
		none(t, pack.List(append(list, list...)...))
		none(t, pack.List(authBytes(a)))
		none(t, pack.Text(authBytes(a)))
		none(t, strings.Join(list, ""))
	}
}

// P16.1: ReadAuth of a Node, or a Seq, that isn't encoded in the shortest form, or isn't a number alone, is ErrForm.
func TestReadAuthOtherNumbers(t *testing.T) {
	rest := []string{string(make([]byte, 32)), "sig"}
	listed := func(node, seq string) string {
		return pack.List(append([]string{node, seq}, rest...)...)
	}
	one := pack.Num(1)
	for _, n := range []int{0, 1, 2, 4} {
		s := pack.Num(n)
		if !read(t, listed(s, one)) || !read(t, listed(one, s)) {
			t.Errorf("%d isn't read", n)
		}
		wrong := []string{"", s + "\x00", s + "\x01", s + s, "\x00" + s, string([]byte{s[0] + 1, 0}) + s[1:],
			"\x08" + strings.Repeat("\x00", 9-len(s)) + s[1:], "\x01", "\x09" + strings.Repeat("\x00", 9), "\xff"}
		for _, number := range wrong {
			none(t, listed(number, one))
			none(t, listed(one, number))
		}
	}
	for _, seq := range []string{"\x08\x80" + strings.Repeat("\x00", 7), "\x08" + strings.Repeat("\xff", 8), "\x08\x00" + strings.Repeat("\xff", 7)} {
		none(t, listed(one, seq))
	}
	if !read(t, listed(one, "\x08\x7f"+strings.Repeat("\xff", 7))) {
		t.Error("the greatest number isn't read")
	}
}

// P16.1: ReadAuth of a Hash that has not 32 bytes is ErrForm.
func TestReadAuthOtherHash(t *testing.T) {
	for size := range 100 {
		for _, b := range []string{"\x00", "\x07"} {
			s := pack.List(pack.Num(1), pack.Num(2), strings.Repeat(b, size), "sig")
			if read(t, s) != (size == 32) {
				t.Errorf("%d bytes", size)
			}
		}
	}
}

// P16.1: ReadAuth of a Node that is not below MaxNodes is ErrForm.
func TestReadAuthNode(t *testing.T) {
	for _, node := range []int{0, 1, 4, 5, 6, 7, 8, 255, 256, 257, 1 << 16, 1 << 32, 1<<32 + 1, top} {
		a := api.Auth{Node: node, Seq: 1, Hash: filled(9), Sig: "sig"}
		if read(t, authBytes(a)) != (node < 5) {
			t.Errorf("%d", node)
		}
	}
}

// P16.1: ReadAuth of a Sig with more than MaxSig bytes is ErrForm.
func TestReadAuthSig(t *testing.T) {
	for _, size := range []int{0, 1, 1023, 1024, 1025, 1026, 2048, 1<<18 - 45, 1 << 18} {
		for _, b := range []string{"\x00", "s"} {
			a := api.Auth{Node: 4, Seq: 1, Hash: filled(9), Sig: strings.Repeat(b, size)}
			if read(t, authBytes(a)) != (size <= 1024) {
				t.Errorf("%d bytes", size)
			}
		}
	}
}

// P16.1: what is decoded is the encoding of the result: drawn authenticators come back, and others have other bytes.
func TestAuthsComeBack(t *testing.T) {
	var chance row = 3
	seen := map[string]api.Auth{}
	for range 5000 {
		a := chance.auth()
		s := chain.AuthText(a)
		if !read(t, s) {
			t.Fatalf("%s isn't read", told(a))
		}
		if got, _ := chain.ReadAuth(s); got != a {
			t.Fatalf("%s: %s", told(a), told(got))
		}
		if other, there := seen[s]; there && other != a {
			t.Fatalf("%s and %s have the same bytes", told(a), told(other))
		}
		seen[s] = a
	}
}

// P16.1: drawn bytes, and lists of drawn parts that fit or nearly: an authenticator just where the reference has one.
func TestReadAuthDrawn(t *testing.T) {
	var chance row = 4
	for range 20000 {
		read(t, chance.text(chance.next(60)))
	}
	pieces := []string{"", "\x00", pack.Num(1), pack.Num(4), pack.Num(5), pack.Num(256), "\x01\x00", "\x02\x00\x01",
		string(make([]byte, 32)), strings.Repeat("\x07", 32), strings.Repeat("\x07", 31), strings.Repeat("\x07", 33), strings.Repeat("s", 1024), strings.Repeat("s", 1025)}
	sizes := []int{4, 4, 4, 4, 3, 5}
	count := 0
	for range 30000 {
		list := make([]string, sizes[chance.next(6)])
		for i := range list {
			list[i] = pieces[chance.next(len(pieces))]
		}
		if chance.next(3) > 0 {
			list[2] = pieces[8+chance.next(3)]
		}
		if read(t, pack.List(list...)) {
			count++
		}
	}
	if count < 300 {
		t.Errorf("%d authenticators", count)
	}
}
