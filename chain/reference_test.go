package chain_test

import (
	"fmt"
	"math"
	"slices"
	"strings"
	"testing"

	"tribunal/api"
	"tribunal/chain"
	"tribunal/entry"
	"tribunal/keys"
	"tribunal/pack"
	"tribunal/sha"
)

// top and bottom are the greatest and the least number.
const (
	top    = math.MaxInt64
	bottom = math.MinInt64
)

// row is numbers that look like chance, the same ones in each run.
type row uint64

func (r *row) next(below int) int {
	*r = *r*6364136223846793005 + 1442695040888963407
	return int(uint64(*r)>>33) % below
}

// text is a text of so many bytes.
func (r *row) text(size int) string {
	b := make([]byte, size)
	for i := range b {
		b[i] = byte(r.next(256))
	}
	return string(b)
}

// id is a hash; sometimes the zero one.
func (r *row) id() api.Id {
	if r.next(8) == 0 {
		return api.Id{}
	}
	return api.Id([]byte(r.text(32)))
}

// entry is an entry that is valid.
func (r *row) entry() api.Entry {
	mask, payload := 1+r.next(31), r.text(r.next(6))
	switch r.next(3) {
	case 0:
		return api.Entry{Kind: 1, Draft: api.Draft{Kind: 1 + r.next(3), Key: r.text(1 + r.next(16)), Value: r.text(r.next(5))}}
	case 1:
		return api.Entry{Kind: 2, From: r.next(5), Seq: 1 + r.next(300), Prev: r.id(), Mask: mask, Payload: payload, Sig: r.text(r.next(20))}
	}
	return api.Entry{Kind: 3, Mask: mask, Payload: payload}
}

// entries are so many entries that are valid.
func (r *row) entries(count int) []api.Entry {
	list := make([]api.Entry, count)
	for i := range list {
		list[i] = r.entry()
	}
	return list
}

// filled is the hash whose bytes are all b.
func filled(b byte) api.Id {
	return api.Id([]byte(strings.Repeat(string([]byte{b}), 32)))
}

// last is the hash that is zero but for its last byte.
func last(b byte) api.Id {
	var x api.Id
	x[31] = b
	return x
}

// told is what a thing is for a reader: its beginning, as its texts may be long.
func told(x any) string {
	s := fmt.Sprintf("%+v", x)
	return s[:min(len(s), 400)]
}

// send is a Send that is valid.
func send(payload string) api.Entry {
	return api.Entry{Kind: 3, Mask: 5, Payload: payload}
}

// good are entries that are valid: of each kind, and at the edges.
func good() []api.Entry {
	return []api.Entry{
		{Kind: 1, Draft: api.Draft{Kind: 1, Key: "set", Value: "x"}},
		{Kind: 1, Draft: api.Draft{Kind: 4, Key: strings.Repeat("\xff", 16), Value: strings.Repeat("\x00", 64), Ref: filled(0xff)}},
		{Kind: 1, Draft: api.Draft{Kind: 5, Key: "list", Ref: last(1)}},
		{Kind: 2, Seq: 1, Mask: 1},
		{Kind: 2, From: 1, Seq: 7, Prev: filled(9), Mask: 5, Payload: "payload", Sig: "sig"},
		{Kind: 2, From: 4, Seq: top, Prev: filled(0xff), Mask: 31, Payload: strings.Repeat("p", 2048), Sig: strings.Repeat("s", 1024)},
		{Kind: 3, Mask: 1},
		{Kind: 3, Mask: 31, Payload: "payload"},
		{Kind: 3, Mask: 4, Payload: strings.Repeat("\x00", 2048)},
	}
}

// bad are entries that are not valid.
func bad() []api.Entry {
	return []api.Entry{
		{},
		{Kind: 1},
		{Kind: 1, Draft: api.Draft{Kind: 6, Key: "set", Value: "x"}},
		{Kind: 1, Draft: api.Draft{Kind: 1, Key: "set", Value: "x"}, Mask: 1},
		{Kind: 2, Mask: 1},
		{Kind: 2, From: 5, Seq: 1, Mask: 1},
		{Kind: 2, From: -1, Seq: 1, Mask: 1},
		{Kind: 2, Seq: 1, Mask: 1, Sig: strings.Repeat("s", 1025)},
		{Kind: 3},
		{Kind: 3, Mask: 32, Payload: "p"},
		{Kind: 3, Mask: 1, Payload: strings.Repeat("p", 2049)},
		{Kind: 3, Mask: 1, Seq: 1},
		{Kind: 4, Mask: 1, Payload: "p"},
		{Kind: -1},
	}
}

// linked is the hash at an entry, made of what the layers below tell.
func linked(prev api.Id, seq int, e api.Entry) api.Id {
	return sha.Of(pack.List("link", string(prev[:]), pack.Num(seq), entry.Text(e)))
}

// worded is the text that is signed.
func worded(node, seq int, hash api.Id) string {
	return pack.Num(4) + pack.Text("word") + pack.Text(pack.Num(node)) + pack.Text(pack.Num(seq)) + pack.Text(string(hash[:]))
}

// authBytes is an authenticator's encoding.
func authBytes(a api.Auth) string {
	return pack.Num(4) + pack.Text(pack.Num(a.Node)) + pack.Text(pack.Num(a.Seq)) + pack.Text(string(a.Hash[:])) + pack.Text(a.Sig)
}

// keysOf are the keys of a seed and a height.
func keysOf(t testing.TB, seed string, height int) *keys.Keys {
	t.Helper()
	k, e := keys.New(seed, height)
	if e != api.OK {
		t.Fatalf("%q, %d: %d", seed, height, e)
	}
	return k
}

// authOf is a node's authenticator for a position and a hash, signed by the keys themselves.
func authOf(t testing.TB, k *keys.Keys, node, seq int, hash api.Id) api.Auth {
	t.Helper()
	sig, e := k.Sign(seq-1, worded(node, seq, hash))
	if e != api.OK {
		t.Fatalf("%d, %d: %d", node, seq, e)
	}
	return api.Auth{Node: node, Seq: seq, Hash: hash, Sig: sig}
}

// opened is an empty log.
func opened(t testing.TB, node int, k *keys.Keys) *chain.Log {
	t.Helper()
	l, e := chain.New(node, k)
	if e != api.OK || l == nil {
		t.Fatalf("%d: %d", node, e)
	}
	return l
}

// filledLog is a log with these entries, and its model.
func filledLog(t testing.TB, node int, k *keys.Keys, list ...api.Entry) (*chain.Log, *model) {
	t.Helper()
	l := opened(t, node, k)
	if e := l.Append(list...); e != api.OK {
		t.Fatalf("%d entries: %d", len(list), e)
	}
	return l, &model{node: node, keys: k, entries: slices.Clone(list)}
}

// model is a log as the chapter has it: everything is made afresh from the entries.
type model struct {
	node    int
	keys    *keys.Keys
	entries []api.Entry
}

func (m *model) append(list ...api.Entry) api.Errno {
	if slices.ContainsFunc(list, func(e api.Entry) bool { return !entry.Good(e) }) {
		return api.ErrArg
	}
	if len(m.entries)+len(list) > m.keys.Count() {
		return api.ErrSpent
	}
	m.entries = append(m.entries, list...)
	return api.OK
}

// hash is the hash at a position that there is; at 0 the one ahead of all.
func (m *model) hash(seq int) api.Id {
	var h api.Id
	for i, e := range m.entries[:seq] {
		h = linked(h, i+1, e)
	}
	return h
}

// like asks all of a log that its model tells: at one position, and between this and another one.
func like(t *testing.T, l *chain.Log, m *model, seq, to int) {
	t.Helper()
	if l.Len() != len(m.entries) || l.Left() != m.keys.Count()-len(m.entries) {
		t.Fatalf("%d entries, %d left, not %d, %d", l.Len(), l.Left(), len(m.entries), m.keys.Count()-len(m.entries))
	}
	var at api.Entry
	var hash api.Id
	var auth api.Auth
	known, hashed := api.ErrNone, api.ErrNone
	if 0 <= seq && seq <= len(m.entries) {
		hash, hashed = m.hash(seq), api.OK
	}
	if 1 <= seq && seq <= len(m.entries) {
		at, known = m.entries[seq-1], api.OK
		auth = authOf(t, m.keys, m.node, seq, hash)
	}
	if got, e := l.At(seq); got != at || e != known {
		t.Fatalf("At %d: %s, %d, not %s, %d", seq, told(got), e, told(at), known)
	}
	if got, e := l.Hash(seq); got != hash || e != hashed {
		t.Fatalf("Hash %d: %x, %d, not %x, %d", seq, got, e, hash, hashed)
	}
	if got, e := l.Auth(seq); got != auth || e != known {
		t.Fatalf("Auth %d: %s, %d, not %s, %d", seq, told(got), e, told(auth), known)
	}
	if got := l.Part(seq, to); !slices.Equal(got, m.part(seq, to)) {
		t.Fatalf("Part %d, %d: %d entries, not %d", seq, to, len(got), len(m.part(seq, to)))
	}
}

// part is the entries whose position is from the one up to the other, if both are positions.
func (m *model) part(from, to int) []api.Entry {
	var list []api.Entry
	for i, e := range m.entries {
		if from >= 1 && from <= i+1 && i+1 <= to && to <= len(m.entries) {
			list = append(list, e)
		}
	}
	return list
}
