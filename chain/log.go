package chain

import (
	"slices"

	"tribunal/api"
	"tribunal/entry"
	"tribunal/keys"
)

// Log is a node's entries, the hashes at them, and the keys with which the node signs these.
type Log struct {
	node    int
	keys    *keys.Keys
	entries []api.Entry
	hashes  []api.Id // by position: the one at 0 is the hash before the first entry
}

// New returns an empty log of a node; ErrNil, ErrArg.
func New(node int, k *keys.Keys) (*Log, api.Errno) {
	if k == nil {
		return nil, api.ErrNil
	}
	if node < 0 || node >= api.MaxNodes {
		return nil, api.ErrArg
	}
	return &Log{node: node, keys: k, hashes: make([]api.Id, 1)}, api.OK
}

// Len returns the number of entries.
func (l *Log) Len() int {
	if l == nil {
		return 0
	}
	return len(l.entries)
}

// Left returns how many more entries there can be: each one needs a key.
func (l *Log) Left() int {
	if l == nil {
		return 0
	}
	return l.keys.Count() - len(l.entries)
}

// Append adds entries at the end, all of them or none; ErrNil, ErrArg, ErrSpent.
func (l *Log) Append(list ...api.Entry) api.Errno {
	if l == nil {
		return api.ErrNil
	}
	for _, e := range list {
		if !entry.Good(e) {
			return api.ErrArg
		}
	}
	if len(list) > l.Left() {
		return api.ErrSpent
	}
	end := l.Len()
	l.hashes = append(l.hashes, Walk(l.hashes[end], end+1, list...)...)
	l.entries = append(l.entries, list...)
	return api.OK
}

// has tells whether the log has an entry with that position.
func (l *Log) has(seq int) bool {
	return seq >= 1 && seq <= l.Len()
}

// At returns the entry with a position; ErrNil, ErrNone.
func (l *Log) At(seq int) (api.Entry, api.Errno) {
	if l == nil {
		return api.Entry{}, api.ErrNil
	}
	if !l.has(seq) {
		return api.Entry{}, api.ErrNone
	}
	return l.entries[seq-1], api.OK
}

// Hash returns the hash at a position, which is zero at 0; ErrNil, ErrNone.
func (l *Log) Hash(seq int) (api.Id, api.Errno) {
	if l == nil {
		return api.Id{}, api.ErrNil
	}
	if seq != 0 && !l.has(seq) {
		return api.Id{}, api.ErrNone
	}
	return l.hashes[seq], api.OK
}

// Auth returns the node's authenticator for a position; ErrNil, ErrNone.
func (l *Log) Auth(seq int) (api.Auth, api.Errno) {
	if l == nil {
		return api.Auth{}, api.ErrNil
	}
	if !l.has(seq) {
		return api.Auth{}, api.ErrNone
	}
	hash := l.hashes[seq]
	// It can't fail: there are no more entries than keys.
	sig, _ := l.keys.Sign(index(seq), Word(l.node, seq, hash))
	return api.Auth{Node: l.node, Seq: seq, Hash: hash, Sig: sig}, api.OK
}

// Part returns the entries from a position up to another one; none, if there is no entry with one of these.
func (l *Log) Part(from, to int) []api.Entry {
	if !l.has(from) || !l.has(to) || from > to {
		return nil
	}
	return slices.Clone(l.entries[from-1 : to])
}
