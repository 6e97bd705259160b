package vault_test

import (
	"strings"
	"testing"

	"tribunal/api"
	"tribunal/disk"
	"tribunal/entry"
	"tribunal/seg"
)

// again opens what lies on a disk again, as a copy of it: there is what lies on the model's disk.
func (p *pair) again(t *testing.T) {
	t.Helper()
	if p.d.Down() {
		rejected(t, p.d, p.m.node, p.m.keys, api.ErrDown)
		return
	}
	twin := &model{node: p.m.node, keys: p.m.keys, disk: copyOf(t, p.m.disk)}
	twin.open(t)
	c := copyOf(t, p.d)
	like(t, opened(t, c, p.m.node, p.m.keys), c, twin)
}

// step is a drawn call of either method; its result.
func (r *row) step(t *testing.T, p *pair) api.Errno {
	t.Helper()
	switch r.next(9) {
	case 0:
		return p.hold(t, strings.Repeat("t", longest-1+r.next(5)))
	case 1, 2, 3:
		return p.hold(t, r.text(r.next(2)*r.next(300)))
	case 4:
		return p.append(t, r.entries(r.next(20), 5)...)
	}
	list := r.entries(r.next(4), 1+r.next(100))
	if len(list) > 0 && r.next(6) == 0 {
		list[r.next(len(list))] = bad()[r.next(len(bad()))]
	}
	return p.append(t, list...)
}

// P17.1: drawn sequences of calls, with power that fails and comes back, and with Open again behind each call: each answer, and all that is there, is what the model has.
func TestDrawnCalls(t *testing.T) {
	var chance row = 5
	counts := map[api.Errno]int{}
	for range 120 {
		node, height := chance.next(5), 1+chance.next(4)
		p := pairOf(t, 2+chance.next(40), node, keysOf(t, chance.text(chance.next(5)), height))
		for range 25 {
			switch chance.next(12) {
			case 0:
				p.off(chance.mask())
			case 1:
				n, keep := chance.next(12), chance.mask()
				p.arm(n, keep)
			}
			counts[chance.step(t, p)]++
			p.again(t)
			if p.d.Down() && chance.next(3) > 0 {
				p.on()
			}
			if !p.d.Down() && chance.next(4) == 0 {
				p.reopen(t)
			}
		}
		signs(t, p.v.Log(), node, p.m.keys, p.m.list, chance.next(len(p.m.list)+1))
	}
	for _, e := range []api.Errno{api.OK, api.ErrArg, api.ErrLong, api.ErrSpent, api.ErrFull, api.ErrDown} {
		if counts[e] < 100 {
			t.Errorf("%v", counts)
		}
	}
}

// read is what the chapter makes of records, with so many keys; false, if that is no vault.
func read(records []string, count int) ([]api.Entry, []string, bool) {
	var list []api.Entry
	var texts []string
	for _, record := range records {
		if strings.HasPrefix(record, "P") {
			texts = append(texts, record[1:])
			continue
		}
		if !strings.HasPrefix(record, "L") {
			return nil, nil, false
		}
		one, e := entry.Read(record[1:])
		if e != api.OK || entryBytes(one) != record[1:] {
			return nil, nil, false
		}
		list = append(list, one)
	}
	return list, texts, len(list) <= count
}

// P17.1: disks with drawn records: a vault just where the chapter's words make one of them, and with that.
func TestOpenDrawnRecords(t *testing.T) {
	var chance row = 6
	k := keysOf(t, "seed", 2)
	vaults := 0
	for range 4000 {
		var records []string
		for range chance.next(8) {
			record := logged(chance.entry(20))[0]
			switch chance.next(16) {
			case 0:
				record = chance.text(chance.next(10))
			case 1:
				at := chance.next(len(record))
				record = record[:at] + chance.text(chance.next(3)) + record[at+1:]
			case 2, 3, 4, 5, 6:
				record = "P" + chance.text(chance.next(10))
			}
			records = append(records, record)
		}
		d := diskOf(t, 20, records)
		list, texts, is := read(records, 4)
		if !is {
			rejected(t, d, 0, k, api.ErrForm)
			continue
		}
		vaults++
		holds(t, opened(t, d, 0, k), list, texts)
	}
	if vaults < 1000 || vaults > 3000 {
		t.Errorf("%d vaults", vaults)
	}
}

// P17.1: disks of which some bytes are changed: the error of layer 8's Open, ErrForm, or what lies there.
func TestOpenChangedDisks(t *testing.T) {
	var chance row = 7
	k := keysOf(t, "seed", 3)
	vaults := 0
	for range 3000 {
		d := diskOf(t, 10, logged(chance.entries(chance.next(6), 30)...), retained(chance.text(chance.next(200)), "text"))
		size := 16 + chance.next(16)
		for range 1 + chance.next(3) {
			change(&chance, d, size)
		}
		_, records, e := seg.Open(d)
		list, texts, is := read(records, 8)
		if e == api.OK && !is {
			e = api.ErrForm
		}
		if e != api.OK {
			rejected(t, d, 0, k, e)
			continue
		}
		vaults++
		holds(t, opened(t, d, 0, k), list, texts)
	}
	if vaults < 500 || vaults > 2500 {
		t.Errorf("%d vaults", vaults)
	}
}

// change changes a drawn byte of a drawn sector, among its first ones.
func change(chance *row, d *disk.Disk, size int) {
	at := chance.next(6)
	b, _ := d.Read(at)
	b[chance.next(size)] = byte(chance.next(256))
	d.Write(at, b...)
	d.Sync()
}

// P17.1: Open gives the same, as often as the disk is opened, whatever was asked of a vault ahead, also what it refused.
func TestOpenAgain(t *testing.T) {
	var chance row = 8
	k := keysOf(t, "seed", 3)
	for range 30 {
		p := pairOf(t, 30, 2, k)
		for range 12 {
			chance.step(t, p)
			p.again(t)
			c := copyOf(t, p.d)
			before := state(t, c)
			v, w := opened(t, c, 2, k), opened(t, c, 2, k)
			holds(t, v, p.m.list, p.m.texts)
			holds(t, w, p.m.list, p.m.texts)
			if state(t, c) != before {
				t.Fatal("Open has changed the disk")
			}
		}
	}
}
