package vault_test

import (
	"slices"
	"strings"
	"testing"

	"tribunal/api"
	"tribunal/disk"
	"tribunal/keys"
	"tribunal/vault"
)

// call is a call of Append, or of Hold.
type call struct {
	list []api.Entry
	text string
	hold bool
}

func (c call) of(v *vault.Vault) api.Errno {
	if c.hold {
		return v.Hold(c.text)
	}
	return v.Append(c.list...)
}

// call is a drawn call, of not too many bytes.
func (r *row) call() call {
	if r.next(3) == 0 {
		return call{hold: true, text: r.text(r.next(2) * r.next(300))}
	}
	return call{list: r.entries(r.next(5), 1+r.next(90))}
}

// calls are so many of these.
func (r *row) calls(count int) []call {
	list := make([]call, count)
	for i := range list {
		list[i] = r.call()
	}
	return list
}

// content is the entries and texts of a vault.
type content struct {
	list  []api.Entry
	texts []string
}

// with is what is there once a call is acknowledged.
func (c content) with(next call) content {
	if next.hold {
		return content{c.list, append(slices.Clip(c.texts), next.text)}
	}
	return content{append(slices.Clip(c.list), next.list...), c.texts}
}

// is tells whether a vault has just that.
func (c content) is(v *vault.Vault) bool {
	l := v.Log()
	return l.Len() == len(c.list) && slices.Equal(l.Part(1, l.Len()), c.list) && slices.Equal(v.Held(), c.texts)
}

// words are all authenticators that a node ever gave, by their position.
type words map[int]api.Auth

// ask asks a vault for the authenticator of a position, which must be the one that was given for it, if there is one.
func (w words) ask(t *testing.T, v *vault.Vault, seq int) {
	t.Helper()
	a, e := v.Log().Auth(seq)
	if e != api.OK {
		t.Fatalf("the authenticator at %d: %d", seq, e)
	}
	if was, there := w[seq]; there && was != a {
		t.Fatalf("two authenticators at %d: %s, %s", seq, told(was), told(a))
	}
	w[seq] = a
}

// hold asks a vault for all authenticators that were given.
func (w words) hold(t *testing.T, v *vault.Vault) {
	t.Helper()
	for seq := range w {
		w.ask(t, v, seq)
	}
}

// failures are, act by act of a script on a new disk, how many writes are pending if the power fails in it.
func failures(t *testing.T, k *keys.Keys, script []call) []int {
	t.Helper()
	d := disk.New(60)
	v := opened(t, d, 0, k)
	var list []int
	for _, c := range script {
		before := d.Acts()
		if e := c.of(v); e != api.OK {
			t.Fatalf("%s: %d", told(c), e)
		}
		// The last three are a sync, the slot, and a sync.
		sectors := d.Acts() - before - 3
		for i := range sectors {
			list = append(list, i+1)
		}
		list = append(list, sectors, 1, 1)
	}
	return list
}

// outcome is what becomes of the call in which the power failed.
type outcome struct {
	lost, kept int
}

// survives lets the power fail in an act of a script: what was acknowledged must be there then, and the call in progress completely or not at all; what follows is stored behind it.
func (o *outcome) survives(t *testing.T, k *keys.Keys, script []call, n int, keep uint64) {
	t.Helper()
	d := disk.New(60)
	v := opened(t, d, 0, k)
	d.Arm(n, keep)
	var have content
	given := words{}
	for len(script) > 0 && script[0].of(v) == api.OK {
		have = have.with(script[0])
		if seq := v.Log().Len(); seq > 0 {
			given.ask(t, v, seq)
		}
		script = script[1:]
	}
	if len(script) == 0 || !d.Down() {
		t.Fatal("the power has not failed")
	}
	d.On()
	// What the vault that met the failure still gives was given, too.
	if v.Log().Len() > 0 {
		given.ask(t, v, 1)
	}
	if !have.is(v) || script[0].of(v) != api.ErrDown || !have.is(v) {
		t.Fatal("the call that failed changes the vault")
	}
	v = opened(t, d, 0, k)
	if next := have.with(script[0]); next.is(v) {
		o.kept++
		have, script = next, script[1:]
	} else {
		o.lost++
	}
	if !have.is(v) {
		t.Fatalf("%d entries, %d texts, not %d, %d", v.Log().Len(), len(v.Held()), len(have.list), len(have.texts))
	}
	given.hold(t, v)
	for _, c := range script {
		if e := c.of(v); e != api.OK {
			t.Fatalf("behind the failure: %d", e)
		}
		have = have.with(c)
	}
	v = opened(t, d, 0, k)
	if !have.is(v) {
		t.Fatal("what follows isn't behind it")
	}
	given.hold(t, v)
}

// P17.2: the power fails in each act of drawn scripts, with each choice of the pending writes that are kept.
func TestFailureInEachAct(t *testing.T) {
	var chance row = 11
	k := keysOf(t, "seed", 5)
	var o outcome
	for range 25 {
		script := chance.calls(1 + chance.next(5))
		for i, pending := range failures(t, k, script) {
			for keep := range uint64(1) << pending {
				o.survives(t, k, script, i+1, keep)
				if t.Failed() {
					t.Fatalf("act %d, keep %b, %s", i+1, keep, told(script))
				}
			}
		}
	}
	if o.lost < 500 || o.kept < 100 {
		t.Errorf("%d calls lost, %d kept", o.lost, o.kept)
	}
}

// P17.2: that holds for one Append of several entries of which each fills sectors of its own: all of them, or none.
func TestFailureInSeveralEntries(t *testing.T) {
	k := keysOf(t, "seed", 5)
	fill := send(strings.Repeat("p", 113))
	if len(logged(fill)[0]) != 126 {
		t.Fatalf("%d bytes", len(logged(fill)[0]))
	}
	var o outcome
	for count := 1; count <= 6; count++ {
		script := []call{{list: []api.Entry{fill}}, {list: slices.Repeat([]api.Entry{fill}, count)}, {hold: true, text: "text"}}
		for i, pending := range failures(t, k, script) {
			for keep := range uint64(1) << pending {
				o.survives(t, k, script, i+1, keep)
			}
		}
	}
	if o.lost == 0 || o.kept == 0 {
		t.Errorf("%d calls lost, %d kept", o.lost, o.kept)
	}
}

// masks are keeps of all kinds.
func masks() []uint64 {
	return []uint64{none, all, 1, 0b10, 0b101, 0b0110, 0x5555555555555555, 0xaaaaaaaaaaaaaaaa, 1<<63 | 1, 1<<63 - 1, 0xffffffff, 0xffffffff00000000, all ^ 1, all ^ 1<<20}
}

// P17.2: that holds for calls of more sectors than a mask has bits, too.
func TestFailureInGreatCalls(t *testing.T) {
	k := keysOf(t, "seed", 5)
	great := []call{{list: slices.Repeat(good()[5:6], 4)}, {hold: true, text: strings.Repeat("t", 9000)}}
	for _, c := range great {
		d := disk.New(200)
		before := content{sends(3), []string{"one"}}
		v := opened(t, d, 1, k)
		if v.Append(before.list...) != api.OK || v.Hold("one") != api.OK {
			t.Fatal("the beginning")
		}
		acts := d.Acts()
		if c.of(v) != api.OK || d.Acts()-acts < 70 {
			t.Fatalf("%d acts", d.Acts()-acts)
		}
		acts = d.Acts() - acts
		for n := 1; n <= acts; n++ {
			for _, keep := range masks() {
				failsAt(t, k, before, c, n, keep, n >= acts-1 && keep&1 == 1)
			}
		}
	}
}

// failsAt lets the power fail in an act of one call, behind a beginning; kept tells whether the write of the slot is made and kept.
func failsAt(t *testing.T, k *keys.Keys, before content, c call, n int, keep uint64, kept bool) {
	t.Helper()
	d := diskOf(t, 200, logged(before.list...), retained(before.texts...))
	v := opened(t, d, 1, k)
	given := words{}
	given.ask(t, v, 3)
	d.Arm(n, keep)
	if e := c.of(v); e != api.ErrDown || !before.is(v) {
		t.Fatalf("act %d, keep %b: %d", n, keep, e)
	}
	rejected(t, d, 1, k, api.ErrDown)
	d.On()
	want := before
	if kept {
		want = before.with(c)
	}
	v = opened(t, d, 1, k)
	if !want.is(v) {
		t.Fatalf("act %d, keep %b: %d entries, %d texts", n, keep, v.Log().Len(), len(v.Held()))
	}
	given.hold(t, v)
}

// P17.2: a failure between two calls loses nothing, whatever the mask is, and whether or not the vault is opened again.
func TestFailureBetweenCalls(t *testing.T) {
	var chance row = 12
	k := keysOf(t, "seed", 6)
	for i, keep := range masks() {
		d := disk.New(200)
		v := opened(t, d, 0, k)
		var have content
		given := words{}
		for _, c := range chance.calls(12) {
			if e := c.of(v); e != api.OK {
				t.Fatal(e)
			}
			have = have.with(c)
			if seq := v.Log().Len(); seq > 0 {
				given.ask(t, v, seq)
			}
			d.Off(keep)
			d.On()
			if i%2 == 0 {
				v = opened(t, d, 0, k)
			}
			if !have.is(v) {
				t.Fatalf("keep %b: %d entries, not %d", keep, v.Log().Len(), len(have.list))
			}
		}
		v = opened(t, d, 0, k)
		if !have.is(v) {
			t.Fatalf("keep %b: %d entries, not %d", keep, v.Log().Len(), len(have.list))
		}
		given.hold(t, v)
	}
}

// P17.2: a call that is refused isn't in progress: nothing of it is there behind a failure.
func TestFailureBehindRefusedCalls(t *testing.T) {
	k := keysOf(t, "seed", 2)
	for _, keep := range masks() {
		d := disk.New(10)
		v := opened(t, d, 0, k)
		have := content{sends(2), []string{"text"}}
		if v.Append(have.list...) != api.OK || v.Hold("text") != api.OK {
			t.Fatal("the beginning")
		}
		for _, e := range []api.Errno{v.Append(send("x"), api.Entry{}), v.Append(sends(3)...), v.Append(good()[5]), v.Hold(strings.Repeat("t", 2000)), v.Hold(strings.Repeat("t", longest+1))} {
			if e == api.OK || e == api.ErrDown {
				t.Fatal(e)
			}
		}
		d.Off(keep)
		if v.Append(send("x")) != api.ErrDown || v.Hold("x") != api.ErrDown {
			t.Fatal("without power")
		}
		d.On()
		if v = opened(t, d, 0, k); !have.is(v) {
			t.Fatalf("keep %b: %d entries, %d texts", keep, v.Log().Len(), len(v.Held()))
		}
	}
}

// run is a disk whose power fails again and again, with what must be there, and all authenticators that were ever given.
type run struct {
	d     *disk.Disk
	v     *vault.Vault
	k     *keys.Keys
	have  content
	given words
	outcome
}

// step performs a call; if the power fails in it, the disk is opened again.
func (r *run) step(t *testing.T, chance *row, c call) {
	t.Helper()
	switch e := c.of(r.v); e {
	case api.OK:
		r.have = r.have.with(c)
	case api.ErrSpent, api.ErrFull:
	case api.ErrDown:
		r.recover(t, chance, c)
	default:
		t.Fatal(e)
	}
	if !r.have.is(r.v) {
		t.Fatalf("%d entries, %d texts, not %d, %d", r.v.Log().Len(), len(r.v.Held()), len(r.have.list), len(r.have.texts))
	}
	if seq := r.v.Log().Len(); seq > 0 {
		r.given.ask(t, r.v, 1+chance.next(seq))
		r.given.ask(t, r.v, seq)
	}
}

// recover opens the disk again, behind a failure in a call.
func (r *run) recover(t *testing.T, chance *row, c call) {
	t.Helper()
	if !r.have.is(r.v) {
		t.Fatal("the call that failed changes the vault")
	}
	if seq := r.v.Log().Len(); seq > 0 {
		r.given.ask(t, r.v, 1+chance.next(seq))
	}
	r.d.Off(chance.mask())
	r.d.On()
	r.v = opened(t, r.d, 2, r.k)
	if next := r.have.with(c); next.is(r.v) {
		r.kept++
		r.have = next
	} else {
		r.lost++
	}
}

// P17.2: long runs of calls, with failure upon failure, in acts and between them, and with vaults that are opened again: each authenticator that any of them ever gave is one of the last one's log.
func TestLongRuns(t *testing.T) {
	var chance row = 13
	k := keysOf(t, "seed", 6)
	var sum outcome
	for range 60 {
		d := disk.New(20 + chance.next(100))
		r := &run{d: d, v: opened(t, d, 2, k), k: k, given: words{}}
		for range 40 {
			switch chance.next(6) {
			case 0, 1:
				n, keep := 1+chance.next(12), chance.mask()
				d.Arm(n, keep)
			case 2:
				d.Off(chance.mask())
				d.On()
			case 3:
				r.v = opened(t, d, 2, k)
			}
			r.step(t, &chance, chance.call())
		}
		d.Off(chance.mask())
		d.On()
		v := opened(t, d, 2, k)
		if !r.have.is(v) {
			t.Fatalf("%d entries, not %d", v.Log().Len(), len(r.have.list))
		}
		r.given.hold(t, v)
		signs(t, v.Log(), 2, k, r.have.list)
		sum.lost, sum.kept = sum.lost+r.lost, sum.kept+r.kept
	}
	if sum.lost < 100 || sum.kept < 50 {
		t.Errorf("%d calls lost, %d kept", sum.lost, sum.kept)
	}
}
