package vault_test

import (
	"fmt"
	"math"
	"slices"
	"strconv"
	"strings"
	"testing"

	"tribunal/api"
	"tribunal/chain"
	"tribunal/disk"
	"tribunal/entry"
	"tribunal/keys"
	"tribunal/pack"
	"tribunal/seg"
	"tribunal/vault"
)

// top and bottom are the greatest and the least number.
const (
	top    = math.MaxInt64
	bottom = math.MinInt64
)

// all and none are the masks that keep every pending write, and no one.
const (
	all  = 1<<64 - 1
	none = 0
)

// longest is how many bytes a text has at most whose record is not too long.
const longest = 250000 - 1

// row is numbers that look like chance, the same ones in each run.
type row uint64

func (r *row) next(below int) int {
	*r = *r*6364136223846793005 + 1442695040888963407
	return int(uint64(*r)>>33) % below
}

// text is a text of so many bytes.
func (r *row) text(size int) string {
	b := make([]byte, size)
	for i := range b {
		b[i] = byte(r.next(256))
	}
	return string(b)
}

// mask is a keep of any kind.
func (r *row) mask() uint64 {
	if r.next(3) == 0 {
		return []uint64{none, all, 1 << r.next(64), all ^ 1<<r.next(64)}[r.next(4)]
	}
	return uint64(r.next(1<<30))<<34 ^ uint64(r.next(1<<30))<<17 ^ uint64(r.next(1<<30))
}

// entry is an entry that is valid, with a payload of less than so many bytes.
func (r *row) entry(below int) api.Entry {
	mask, payload := 1+r.next(31), r.text(r.next(below))
	switch r.next(3) {
	case 0:
		return api.Entry{Kind: 1, Draft: api.Draft{Kind: 1 + r.next(3), Key: r.text(1 + r.next(16)), Value: r.text(r.next(5))}}
	case 1:
		return api.Entry{Kind: 2, From: r.next(5), Seq: 1 + r.next(300), Prev: api.Id([]byte(r.text(32))), Mask: mask, Payload: payload, Sig: r.text(r.next(20))}
	}
	return api.Entry{Kind: 3, Mask: mask, Payload: payload}
}

// entries are so many of these.
func (r *row) entries(count, below int) []api.Entry {
	list := make([]api.Entry, count)
	for i := range list {
		list[i] = r.entry(below)
	}
	return list
}

// filled is the hash whose bytes are all b.
func filled(b byte) api.Id {
	return api.Id([]byte(strings.Repeat(string([]byte{b}), 32)))
}

// told is what a thing is for a reader: its beginning, as its texts may be long.
func told(x any) string {
	s := fmt.Sprintf("%+v", x)
	return strconv.QuoteToASCII(s[:min(len(s), 400)])
}

// send is a Send that is valid.
func send(payload string) api.Entry {
	return api.Entry{Kind: 3, Mask: 5, Payload: payload}
}

// sends are so many Sends, each one another.
func sends(count int) []api.Entry {
	list := make([]api.Entry, count)
	for i := range list {
		list[i] = send(fmt.Sprint("payload ", i))
	}
	return list
}

// good are entries that are valid: of each kind, and at the edges.
func good() []api.Entry {
	return []api.Entry{
		{Kind: 1, Draft: api.Draft{Kind: 1, Key: "set", Value: "x"}},
		{Kind: 1, Draft: api.Draft{Kind: 4, Key: strings.Repeat("\xff", 16), Value: strings.Repeat("\x00", 64), Ref: filled(0xff)}},
		{Kind: 1, Draft: api.Draft{Kind: 5, Key: "list", Ref: filled(1)}},
		{Kind: 2, Seq: 1, Mask: 1},
		{Kind: 2, From: 1, Seq: 7, Prev: filled(9), Mask: 5, Payload: "payload", Sig: "sig"},
		{Kind: 2, From: 4, Seq: top, Prev: filled(0xff), Mask: 31, Payload: strings.Repeat("p", 2048), Sig: strings.Repeat("s", 1024)},
		{Kind: 3, Mask: 1},
		{Kind: 3, Mask: 31, Payload: "payload"},
		{Kind: 3, Mask: 4, Payload: strings.Repeat("\x00", 2048)},
	}
}

// bad are entries that are not valid.
func bad() []api.Entry {
	return []api.Entry{
		{},
		{Kind: 1},
		{Kind: 1, Draft: api.Draft{Kind: 6, Key: "set", Value: "x"}},
		{Kind: 1, Draft: api.Draft{Kind: 1, Key: "set", Value: "x"}, Mask: 1},
		{Kind: 2, Mask: 1},
		{Kind: 2, From: 5, Seq: 1, Mask: 1},
		{Kind: 2, From: -1, Seq: 1, Mask: 1},
		{Kind: 2, Seq: 1, Mask: 1, Sig: strings.Repeat("s", 1025)},
		{Kind: 3},
		{Kind: 3, Mask: 32, Payload: "p"},
		{Kind: 3, Mask: 1, Payload: strings.Repeat("p", 2049)},
		{Kind: 3, Mask: 1, Seq: 1},
		{Kind: 4, Mask: 1, Payload: "p"},
		{Kind: -1},
	}
}

// texts are texts that can be retained, some of which look like records.
func texts() []string {
	return []string{"", "evidence", "", "evidence", "L", "P", "LP", "PP", "P" + entry.Text(send("p")), "L" + entry.Text(send("p")),
		entry.Text(send("p")), "\x00", "\xff\xfe", pack.Text("P"), strings.Repeat("t", 127), strings.Repeat("t", 128), strings.Repeat("\x00", 1000)}
}

// entryBytes is an entry's encoding, also of one that is not valid.
func entryBytes(e api.Entry) string {
	kind := pack.Num(e.Kind)
	switch e.Kind {
	case 1:
		d := e.Draft
		return pack.List(kind, pack.List(pack.Num(d.Kind), d.Key, d.Value, string(d.Ref[:])))
	case 2:
		return pack.List(kind, pack.Num(e.From), pack.Num(e.Seq), string(e.Prev[:]), pack.Num(e.Mask), e.Payload, e.Sig)
	}
	return pack.List(kind, pack.Num(e.Mask), e.Payload)
}

// logged are the records of entries.
func logged(list ...api.Entry) []string {
	var records []string
	for _, e := range list {
		records = append(records, "L"+entryBytes(e))
	}
	return records
}

// retained are the records of texts.
func retained(list ...string) []string {
	var records []string
	for _, text := range list {
		records = append(records, "P"+text)
	}
	return records
}

// keysOf are the keys of a seed and a height.
func keysOf(t testing.TB, seed string, height int) *keys.Keys {
	t.Helper()
	k, e := keys.New(seed, height)
	if e != api.OK {
		t.Fatalf("%q, %d: %d", seed, height, e)
	}
	return k
}

// logOf is the log of layer 16 with these entries.
func logOf(t testing.TB, node int, k *keys.Keys, list ...api.Entry) *chain.Log {
	t.Helper()
	l, e := chain.New(node, k)
	if e != api.OK || l.Append(list...) != api.OK {
		t.Fatalf("%d: %d, %d entries", node, e, len(list))
	}
	return l
}

// diskOf is a disk of so many sectors, with these records, one batch each time.
func diskOf(t testing.TB, sectors int, batches ...[]string) *disk.Disk {
	t.Helper()
	d := disk.New(sectors)
	s, _, e := seg.Open(d)
	if e != api.OK {
		t.Fatalf("%d sectors: %d", sectors, e)
	}
	for _, batch := range batches {
		if e := s.Append(batch...); e != api.OK {
			t.Fatalf("%d records: %d", len(batch), e)
		}
	}
	return d
}

// sectorsOf are the bytes of a disk whose power is on, sector by sector.
func sectorsOf(t testing.TB, d *disk.Disk) []string {
	t.Helper()
	var list []string
	for at := range d.Size() {
		b, e := d.Read(at)
		if e != api.OK {
			t.Fatalf("sector %d: %d", at, e)
		}
		list = append(list, string(b))
	}
	return list
}

// copyOf is another disk with the same contents.
func copyOf(t testing.TB, d *disk.Disk) *disk.Disk {
	t.Helper()
	c := disk.New(d.Size())
	for at, b := range sectorsOf(t, d) {
		c.Write(at, []byte(b)...)
	}
	c.Sync()
	return c
}

// recordsOf are the records of a disk, which layer 8 reads.
func recordsOf(t testing.TB, d *disk.Disk) []string {
	t.Helper()
	_, list, e := seg.Open(d)
	if e != api.OK {
		t.Fatalf("the records: %d", e)
	}
	return list
}

// state is what a disk tells of itself, with its contents, if these can be read.
func state(t testing.TB, d *disk.Disk) string {
	t.Helper()
	s := fmt.Sprintln(d.Size(), d.Down(), d.Acts(), d.Waits())
	if d.Down() {
		return s
	}
	return s + strings.Join(sectorsOf(t, d), "")
}

// opened is the vault of a disk.
func opened(t testing.TB, d *disk.Disk, node int, k *keys.Keys) *vault.Vault {
	t.Helper()
	v, e := vault.Open(d, node, k)
	if e != api.OK || v == nil {
		t.Fatalf("%v, %d", v != nil, e)
	}
	return v
}

// rejected asks Open for an error, no vault, and no act.
func rejected(t testing.TB, d *disk.Disk, node int, k *keys.Keys, want api.Errno) {
	t.Helper()
	acts := d.Acts()
	if v, e := vault.Open(d, node, k); v != nil || e != want || d.Acts() != acts {
		t.Errorf("%v, %d, %d acts, not error %d", v != nil, e, d.Acts()-acts, want)
	}
}

// holds asks a vault for these entries and texts, and nothing else.
func holds(t testing.TB, v *vault.Vault, list []api.Entry, texts []string) {
	t.Helper()
	l := v.Log()
	if got := l.Part(1, l.Len()); l.Len() != len(list) || !slices.Equal(got, list) {
		t.Fatalf("%d entries, not %d: %s, not %s", l.Len(), len(list), told(got), told(list))
	}
	if got := v.Held(); !slices.Equal(got, texts) {
		t.Fatalf("%d texts, not %d: %.200q, not %.200q", len(got), len(texts), got, texts)
	}
}

// signs asks for a log with the hashes, the space and some authenticators of that of layer 16 with these entries.
func signs(t testing.TB, l *chain.Log, node int, k *keys.Keys, list []api.Entry, at ...int) {
	t.Helper()
	want := logOf(t, node, k, list...)
	if l.Len() != want.Len() || l.Left() != want.Left() {
		t.Fatalf("%d entries, %d left, not %d, %d", l.Len(), l.Left(), want.Len(), want.Left())
	}
	for seq := range want.Len() + 2 {
		got, e := l.Hash(seq)
		if hash, f := want.Hash(seq); got != hash || e != f {
			t.Fatalf("the hash at %d: %x, %d, not %x, %d", seq, got, e, hash, f)
		}
	}
	for _, seq := range at {
		got, e := l.Auth(seq)
		if auth, f := want.Auth(seq); got != auth || e != f {
			t.Fatalf("the authenticator at %d: %s, %d, not %s, %d", seq, told(got), e, told(auth), f)
		}
	}
}

// model is a vault as the chapter has it, beside a disk of its own, on which layer 8 stores the records that the chapter names.
type model struct {
	node  int
	keys  *keys.Keys
	disk  *disk.Disk
	store *seg.Seg
	list  []api.Entry
	texts []string
}

// modelOf is the model of a new disk with so many sectors.
func modelOf(t testing.TB, sectors, node int, k *keys.Keys) *model {
	t.Helper()
	m := &model{node: node, keys: k, disk: disk.New(sectors)}
	m.open(t)
	return m
}

// open takes what is on the disk.
func (m *model) open(t testing.TB) {
	t.Helper()
	s, records, e := seg.Open(m.disk)
	if e != api.OK {
		t.Fatalf("the model's disk: %d", e)
	}
	m.store, m.list, m.texts = s, nil, nil
	for _, record := range records {
		if record[0] == 'P' {
			m.texts = append(m.texts, record[1:])
			continue
		}
		one, e := entry.Read(record[1:])
		if e != api.OK {
			t.Fatalf("a record of the model: %d", e)
		}
		m.list = append(m.list, one)
	}
}

func (m *model) append(list ...api.Entry) api.Errno {
	if slices.ContainsFunc(list, func(e api.Entry) bool { return !entry.Good(e) }) {
		return api.ErrArg
	}
	if len(m.list)+len(list) > m.keys.Count() {
		return api.ErrSpent
	}
	e := m.store.Append(logged(list...)...)
	if e == api.OK {
		m.list = append(m.list, list...)
	}
	return e
}

func (m *model) hold(text string) api.Errno {
	e := m.store.Append(retained(text)...)
	if e == api.OK {
		m.texts = append(m.texts, text)
	}
	return e
}

// like asks for a vault, and its disk, with all that the model has.
func like(t testing.TB, v *vault.Vault, d *disk.Disk, m *model) {
	t.Helper()
	holds(t, v, m.list, m.texts)
	if state(t, d) != state(t, m.disk) {
		t.Fatalf("another disk: down %v, %d acts, not %v, %d", d.Down(), d.Acts(), m.disk.Down(), m.disk.Acts())
	}
}

// pair is a vault on its disk, and the model of both.
type pair struct {
	v *vault.Vault
	d *disk.Disk
	m *model
}

// pairOf is a vault on a new disk of so many sectors.
func pairOf(t testing.TB, sectors, node int, k *keys.Keys) *pair {
	t.Helper()
	d := disk.New(sectors)
	return &pair{opened(t, d, node, k), d, modelOf(t, sectors, node, k)}
}

// append asks both for the same, and compares all that there is then.
func (p *pair) append(t testing.TB, list ...api.Entry) api.Errno {
	t.Helper()
	return p.same(t, p.v.Append(list...), p.m.append(list...))
}

// hold asks both for the same, and compares all that there is then.
func (p *pair) hold(t testing.TB, text string) api.Errno {
	t.Helper()
	return p.same(t, p.v.Hold(text), p.m.hold(text))
}

func (p *pair) same(t testing.TB, got, want api.Errno) api.Errno {
	t.Helper()
	if got != want {
		t.Fatalf("%d, not %d", got, want)
	}
	like(t, p.v, p.d, p.m)
	return got
}

// appended asks for this result of Append, from both.
func (p *pair) appended(t testing.TB, want api.Errno, list ...api.Entry) {
	t.Helper()
	if e := p.append(t, list...); e != want {
		t.Fatalf("%d entries: %d, not %d", len(list), e, want)
	}
}

// held asks for this result of Hold, from both.
func (p *pair) held(t testing.TB, want api.Errno, text string) {
	t.Helper()
	if e := p.hold(t, text); e != want {
		t.Fatalf("a text of %d bytes: %d, not %d", len(text), e, want)
	}
}

// idle asks for a call that performs no act, and changes neither the log nor the texts.
func (p *pair) idle(t testing.TB, call func()) {
	t.Helper()
	before, list, texts := state(t, p.d), slices.Clone(p.m.list), slices.Clone(p.m.texts)
	call()
	holds(t, p.v, list, texts)
	if state(t, p.d) != before {
		t.Fatal("the disk has changed")
	}
}

// off lets the power fail on both disks.
func (p *pair) off(keep uint64) {
	p.d.Off(keep)
	p.m.disk.Off(keep)
}

// on switches both on.
func (p *pair) on() {
	p.d.On()
	p.m.disk.On()
}

// arm arms both.
func (p *pair) arm(n int, keep uint64) {
	p.d.Arm(n, keep)
	p.m.disk.Arm(n, keep)
}

// reopen opens the disk again, in place of the vault that there was.
func (p *pair) reopen(t testing.TB) {
	t.Helper()
	p.m.open(t)
	p.v = opened(t, p.d, p.m.node, p.m.keys)
	like(t, p.v, p.d, p.m)
}

// lies asks for a disk with these records, as layer 8 reads them, from which another vault has the same; the vault that there is remains the one that was opened last.
func (p *pair) lies(t testing.TB, want ...string) {
	t.Helper()
	c := copyOf(t, p.d)
	if got := recordsOf(t, c); !slices.Equal(got, want) {
		t.Fatalf("%d records, not %d: %.200q, not %.200q", len(got), len(want), got, want)
	}
	holds(t, opened(t, c, p.m.node, p.m.keys), p.m.list, p.m.texts)
}
