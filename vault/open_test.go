package vault_test

import (
	"slices"
	"strings"
	"testing"

	"tribunal/api"
	"tribunal/disk"
	"tribunal/entry"
	"tribunal/keys"
	"tribunal/pack"
	"tribunal/vault"
)

// faulty is a disk, and the error with which layer 8 opens it.
type faulty struct {
	name string
	d    *disk.Disk
	want api.Errno
}

// faulties are disks of which no vault can be opened; the last one is new.
func faulties(t *testing.T) []faulty {
	t.Helper()
	down := diskOf(t, 8, logged(good()[0]))
	down.Off(none)
	small := disk.New(1)
	small.Off(none)
	noSlot := disk.New(8)
	noSlot.Write(0, slices.Repeat([]byte{0xff}, 128)...)
	noSlot.Sync()
	noRecords := disk.New(8)
	noRecords.Write(0, 0, 0, 0, 0, 0, 0, 0, 1, 0, 0, 0, 0, 0, 0, 0, 1)
	noRecords.Write(2, 9)
	noRecords.Sync()
	wrongDown := diskOf(t, 8, []string{"wrong"})
	wrongDown.Off(none)
	return []faulty{
		{"nil", nil, api.ErrNil},
		{"of no sector", disk.New(0), api.ErrArg},
		{"of one sector", disk.New(1), api.ErrArg},
		{"of one sector, without power", small, api.ErrArg},
		{"without power", down, api.ErrDown},
		{"with a wrong record, without power", wrongDown, api.ErrDown},
		{"with a slot that is none", noSlot, api.ErrForm},
		{"with valid bytes that are no records", noRecords, api.ErrForm},
		{"with a wrong record", diskOf(t, 8, []string{"wrong"}), api.ErrForm},
		{"with too many entries", diskOf(t, 8, logged(sends(3)...)), api.ErrForm},
		{"new", disk.New(8), api.OK},
	}
}

// P17.1: Open returns the first error of those that layer 16's New, layer 8's Open and the records have, whichever there are at once.
func TestOpenFaults(t *testing.T) {
	k := keysOf(t, "seed", 1)
	for _, c := range faulties(t) {
		for _, node := range []int{bottom, -5, -1, 0, 1, 2, 3, 4, 5, 6, 1 << 32, top} {
			want := c.want
			if node < 0 || node > 4 {
				want = api.ErrArg
			}
			acts := c.d.Acts()
			if v, e := vault.Open(c.d, node, k); e != want || (v != nil) != (want == api.OK) {
				t.Errorf("a disk %s, node %d: %v, %d, not %d", c.name, node, v != nil, e, want)
			}
			if v, e := vault.Open(c.d, node, nil); e != api.ErrNil || v != nil {
				t.Errorf("a disk %s, node %d, nil keys: %v, %d", c.name, node, v != nil, e)
			}
			if c.d.Acts() != acts {
				t.Errorf("a disk %s, node %d: %d acts", c.name, node, c.d.Acts()-acts)
			}
		}
	}
}

// P17.1: a new disk is that of a vault with an empty log and no text, for each node and disks of all sizes.
func TestOpenNew(t *testing.T) {
	for node := range 5 {
		k := keysOf(t, "seed", 1+node)
		for _, sectors := range []int{2, 3, 4, 100, api.MaxSector} {
			d := disk.New(sectors)
			v := opened(t, d, node, k)
			holds(t, v, nil, nil)
			signs(t, v.Log(), node, k, nil, -1, 0, 1)
			if d.Acts() != 0 {
				t.Errorf("%d acts", d.Acts())
			}
		}
	}
}

// P17.1: a disk without power is that of a vault when its power is on again.
func TestOpenAfterPower(t *testing.T) {
	k := keysOf(t, "seed", 3)
	for _, keep := range []uint64{none, all, 1} {
		d := diskOf(t, 30, logged(good()[0]), retained("t"))
		d.Off(keep)
		rejected(t, d, 0, k, api.ErrDown)
		rejected(t, d, 0, k, api.ErrDown)
		d.On()
		holds(t, opened(t, d, 0, k), good()[:1], []string{"t"})
	}
}

// P17.1: the vault has the entries and the texts of the records in their order, whatever the batches are, and whichever node opens it; Open performs no act.
func TestOpenRecords(t *testing.T) {
	k := keysOf(t, "seed", 5)
	list, held := good(), texts()
	mixed := slices.Concat(retained(held[:2]...), logged(list[:4]...), retained(held[2:9]...), logged(list[4]), retained(held[9]), logged(list[5:]...), retained(held[10:]...))
	for name, c := range map[string]struct {
		records []string
		list    []api.Entry
		texts   []string
	}{
		"none":        {},
		"an entry":    {logged(list[5]), list[5:6], nil},
		"entries":     {logged(list...), list, nil},
		"a text":      {retained(held[1]), nil, held[1:2]},
		"texts":       {retained(held...), nil, held},
		"mixed":       {mixed, list, held},
		"by turns":    {[]string{"Pa", logged(list[0])[0], "Pb", logged(list[1])[0], "Pa", logged(list[0])[0]}, []api.Entry{list[0], list[1], list[0]}, []string{"a", "b", "a"}},
		"text first":  {append(retained("t"), logged(list...)...), list, []string{"t"}},
		"text last":   {append(logged(list...), "Pt"), list, []string{"t"}},
		"empty text":  {[]string{"P"}, nil, []string{""}},
		"empty texts": {[]string{"P", "P"}, nil, []string{"", ""}},
	} {
		var single [][]string
		for _, record := range c.records {
			single = append(single, []string{record})
		}
		half := len(c.records) / 2
		for _, batches := range [][][]string{{c.records}, single, {c.records[:half], {}, c.records[half:]}} {
			d := diskOf(t, 100, batches...)
			before := state(t, d)
			for node := range 5 {
				v := opened(t, d, node, k)
				holds(t, v, c.list, c.texts)
				signs(t, v.Log(), node, k, c.list, 0, 1, len(c.list), len(c.list)+1)
			}
			if state(t, d) != before {
				t.Errorf("%s: Open has changed the disk", name)
			}
		}
	}
}

// P17.1: the records are L and an entry's bytes, and P and a text's, here written out.
func TestOpenWrittenOut(t *testing.T) {
	records := []string{"P", "L\x01\x03\x01\x02\x01\x03\x01\x02\x01\x05\x01\x02hi", "PL", "L\x01\x02\x01\x02\x01\x01\x01\x2e\x01\x04\x01\x02\x01\x01\x01\x01k\x01\x01v\x01\x20" + strings.Repeat("\x00", 32)}
	list := []api.Entry{{Kind: 3, Mask: 5, Payload: "hi"}, {Kind: 1, Draft: api.Draft{Kind: 1, Key: "k", Value: "v"}}}
	holds(t, opened(t, diskOf(t, 10, records), 0, keysOf(t, "seed", 1)), list, []string{"", "L"})
}

// misfits are disks' records of which this one is put at each place among others that fit.
func misfits(t *testing.T, k *keys.Keys, record string) {
	t.Helper()
	fine := []string{"Pone", logged(good()[0])[0], "P"}
	for at := range len(fine) + 1 {
		rejected(t, diskOf(t, 60, slices.Insert(slices.Clone(fine), at, record)), 0, k, api.ErrForm)
	}
	rejected(t, diskOf(t, 60, []string{record}), 0, k, api.ErrForm)
	if t.Failed() {
		t.Fatalf("%.100q", record)
	}
}

// P17.1: a record of neither kind is ErrForm, wherever it is: one of no bytes, and one of each other first byte, whatever follows.
func TestOpenOtherKinds(t *testing.T) {
	k := keysOf(t, "seed", 3)
	misfits(t, k, "")
	for first := range 256 {
		if first == 'L' || first == 'P' {
			continue
		}
		for _, rest := range []string{"", "text", entryBytes(good()[4]), "Ptext", logged(good()[4])[0]} {
			misfits(t, k, string([]byte{byte(first)})+rest)
		}
	}
}

// P17.1: an L with bytes that aren't an entry's encoding is ErrForm: none, cut ones, more, another's.
func TestOpenNoEntry(t *testing.T) {
	k := keysOf(t, "seed", 3)
	misfits(t, k, "L")
	for i, e := range good() {
		s := entryBytes(e)
		others := []string{s + "\x00", "\x00" + s, s + s, "L" + s, "P" + s, pack.Text(s), pack.List(s)}
		for at := range min(len(s), 60) {
			others = append(others, s[:at], s[at+1:], s[:at]+"\xfe"+s[at:])
		}
		for _, other := range others {
			if _, e := entry.Read(other); e == api.OK {
				t.Fatalf("%d: %.100q is an entry", i, other)
			}
			misfits(t, k, "L"+other)
		}
	}
	for _, s := range []string{"text", "\x00", "\x01\x00", pack.List(), pack.List(""), pack.List("\x01\x03"), strings.Repeat("\x00", 200), strings.Repeat("x", 5000)} {
		misfits(t, k, "L"+s)
	}
}

// P17.1: an L with the encoding of an entry that is not valid is ErrForm.
func TestOpenEntryThatIsNotValid(t *testing.T) {
	k := keysOf(t, "seed", 3)
	zero := string(make([]byte, 32))
	for _, e := range []api.Entry{
		{},
		{Kind: 1},
		{Kind: 1, Draft: api.Draft{Kind: 6, Key: "set", Value: "x"}},
		{Kind: 1, Draft: api.Draft{Kind: 1, Value: "x"}},
		{Kind: 1, Draft: api.Draft{Kind: 1, Key: strings.Repeat("k", 17)}},
		{Kind: 1, Draft: api.Draft{Kind: 1, Key: "set", Value: strings.Repeat("v", 65)}},
		{Kind: 1, Draft: api.Draft{Kind: 5, Key: "list"}},
		{Kind: 2, Mask: 1},
		{Kind: 2, From: 5, Seq: 1, Mask: 1},
		{Kind: 2, Seq: 1},
		{Kind: 2, Seq: 1, Mask: 32},
		{Kind: 2, Seq: 1, Mask: 1, Payload: strings.Repeat("p", 2049)},
		{Kind: 2, Seq: 1, Mask: 1, Sig: strings.Repeat("s", 1025)},
		{Kind: 3},
		{Kind: 3, Mask: 32, Payload: "p"},
		{Kind: 3, Mask: 1, Payload: strings.Repeat("p", 2049)},
		{Kind: 4, Mask: 1, Payload: "p"},
	} {
		misfits(t, k, "L"+entryBytes(e))
	}
	for _, s := range []string{
		pack.List("\x02\x00\x03", pack.Num(1), "p"),
		pack.List(pack.Num(3), "\x02\x00\x01", "p"),
		pack.List(pack.Num(2), pack.Num(0), pack.Num(1), zero[1:], pack.Num(1), "", ""),
		pack.List(pack.Num(2), pack.Num(0), pack.Num(1), zero+"\x00", pack.Num(1), "", ""),
	} {
		misfits(t, k, "L"+s)
	}
}

// P17.1: more entries than the keys have are ErrForm; texts need no keys.
func TestOpenMoreThanKeys(t *testing.T) {
	for height := 1; height <= 4; height++ {
		k := keysOf(t, "seed", height)
		for more := -1; more <= 3; more++ {
			list := sends(1<<height + more)
			held := slices.Repeat([]string{"text"}, 2<<height)
			for _, d := range []*disk.Disk{
				diskOf(t, 100, logged(list...)),
				diskOf(t, 100, retained(held...), logged(list...)),
				diskOf(t, 100, logged(list...), retained(held...)),
				diskOf(t, 100, logged(list[:1]...), retained(held...), logged(list[1:]...)),
			} {
				if more > 0 {
					rejected(t, d, 0, k, api.ErrForm)
					continue
				}
				v := opened(t, d, 0, k)
				if v.Log().Left() != -more {
					t.Errorf("height %d: %d left, not %d", height, v.Log().Left(), -more)
				}
				if got := v.Held(); len(got) > 0 && !slices.Equal(got, held) {
					t.Errorf("height %d: %d texts", height, len(got))
				}
			}
		}
		// With more keys it is a vault.
		holds(t, opened(t, diskOf(t, 100, logged(sends(1<<height+1)...)), 0, keysOf(t, "seed", height+1)), sends(1<<height+1), nil)
	}
}

// P17.1: a vault of great records: the longest texts, as many entries as there are keys at most.
func TestOpenGreat(t *testing.T) {
	k := keysOf(t, "seed", 8)
	long := strings.Repeat("P", longest)
	list := slices.Repeat(good()[5:6], 256)
	d := diskOf(t, api.MaxSector, retained(long, "", long), logged(list...), retained("L"+long[1:]))
	v := opened(t, d, 4, k)
	holds(t, v, list, []string{long, "", long, "L" + long[1:]})
	signs(t, v.Log(), 4, k, list, 1, 256)
}

// P17.1: what is opened is what is there: with other keys, and for another node, the log has the same entries and hashes, but other authenticators.
func TestOpenWithOtherKeys(t *testing.T) {
	d := diskOf(t, 60, logged(good()...), retained("t"))
	seen := map[api.Auth]bool{}
	for _, seed := range []string{"", "seed", "other"} {
		k := keysOf(t, seed, 4)
		for node := range 5 {
			v := opened(t, d, node, k)
			holds(t, v, good(), []string{"t"})
			signs(t, v.Log(), node, k, good(), 9)
			a, _ := v.Log().Auth(9)
			seen[a] = true
		}
	}
	if len(seen) != 15 {
		t.Errorf("%d authenticators", len(seen))
	}
}

// P17.1: the methods of a nil vault return ErrNil, nil, and nothing.
func TestNilVault(t *testing.T) {
	var v *vault.Vault
	for _, list := range [][]api.Entry{nil, good(), bad(), make([]api.Entry, 300)} {
		if e := v.Append(list...); e != api.ErrNil {
			t.Errorf("%d entries: %d", len(list), e)
		}
	}
	for _, text := range []string{"", "text", strings.Repeat("t", longest+1)} {
		if e := v.Hold(text); e != api.ErrNil {
			t.Errorf("a text of %d bytes: %d", len(text), e)
		}
	}
	if v.Log() != nil || len(v.Held()) != 0 {
		t.Error("a nil vault has something")
	}
}
