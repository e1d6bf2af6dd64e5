package vault_test

import (
	"bytes"
	"math"
	"testing"

	"oubliette/api"
	"oubliette/vault"
	"oubliette/veil"
	"oubliette/world"
)

// run: a block of bytes of which no two beside each other are alike; unlike for unlike steps below 2^16.
func run(step int) []byte {
	b := make([]byte, 256)
	for i := range b {
		b[i] = byte(i)*7 + byte(step)
	}
	b[255] = byte(step >> 8)
	return b
}

// zeros: a block of bytes 0.
func zeros() []byte { return make([]byte, 256) }

// keyed: a veil of a key.
func keyed(t *testing.T) *veil.Veil {
	t.Helper()
	w, e := veil.New(run(3)[:32])
	if e != api.OK {
		t.Fatal(e)
	}
	return w
}

// pads: a veil of a table that has pads of the first epochs' first sequences, of all lengths.
func pads() *veil.Veil {
	var out []api.Pad
	for epoch := range 12 {
		for seq := range 30 {
			out = append(out, api.Pad{Epoch: uint32(epoch), Seq: uint32(seq), Bytes: run(31*epoch + seq)[:(epoch+seq*29)%257]})
		}
	}
	return veil.Ideal(out)
}

// rig: a vault on its disk and anchor, and the model that it is held to.
type rig struct {
	t *testing.T
	d *world.Disk
	a *world.Anchor
	v *vault.Vault
	m *model

	disk, anchor         []api.Touch // what should have touched them, and wasn't looked at yet
	diskSeen, anchorSeen int
	used                 map[nonce]bool // by elder vaults
}

// vaultOf makes a vault that should do.
func vaultOf(t *testing.T, d *world.Disk, a *world.Anchor, w *veil.Veil, depth int) *vault.Vault {
	t.Helper()
	v, e := vault.New(d, a, w, depth)
	if e != api.OK || v == nil {
		t.Fatalf("P9.1: New(disk of %d, depth %d): %v, %v", d.Blocks(), depth, v, e)
	}
	return v
}

// rigOn: a new disk with some blocks more than it needs, a new anchor, and a vault that is mounting.
func rigOn(t *testing.T, depth, more int, w *veil.Veil) *rig {
	t.Helper()
	blocks := need(depth) + more
	d, e := world.New(blocks)
	if e != api.OK {
		t.Fatal(e)
	}
	a := world.NewAnchor()
	return &rig{t: t, d: d, a: a, v: vaultOf(t, d, a, w, depth), m: newModel(depth, blocks, w), used: map[nonce]bool{}}
}

// readyOn: likewise, and the vault is ready.
func readyOn(t *testing.T, depth, more int, w *veil.Veil) *rig {
	t.Helper()
	r := rigOn(t, depth, more, w)
	r.mountAll()
	return r
}

// same: what costs little to look at is as the model has it.
func (r *rig) same() {
	r.t.Helper()
	m := r.m
	if got := r.v.Ready(); got != m.ready {
		r.t.Fatalf("P9.2: Ready: %v", got)
	}
	if got := r.v.Epoch(); got != m.epoch {
		r.t.Fatalf("P9.6: Epoch: %d, not %d", got, m.epoch)
	}
	if got := r.v.Changed(); got != len(m.changed) {
		r.t.Fatalf("P9.5: Changed: %d, not %d", got, len(m.changed))
	}
	if got := r.v.Going(); got != (m.going != nil) {
		r.t.Fatalf("P9.5: Going: %v", got)
	}
	if got := r.v.Free(); m.ready && m.going == nil && got != m.free(m.taken) {
		r.t.Fatalf("P9.6: Free: %d, not %d", got, m.free(m.taken))
	}
	if got, want := r.d.Touched(), r.diskSeen+len(r.disk); got != want {
		r.t.Fatalf("the disk was touched %d times, not %d", got, want)
	}
	if got, want := r.a.Touched(), r.anchorSeen+len(r.anchor); got != want {
		r.t.Fatalf("the anchor was touched %d times, not %d", got, want)
	}
	if r.a.Get() != m.root() {
		r.t.Fatalf("the anchor holds %v, not %v", r.a.Get(), m.root())
	}
}

// traced: touches are these.
func traced(t *testing.T, name string, got, want []api.Touch) {
	t.Helper()
	for i, x := range want {
		if y := got[i]; y.Kind != x.Kind || y.At != x.At || !bytes.Equal(y.Bytes, x.Bytes) {
			t.Fatalf("the %s's touch %d of %d: kind %d at %d, %x; not kind %d at %d, %x", name, i, len(want), y.Kind, y.At, y.Bytes, x.Kind, x.At, x.Bytes)
		}
	}
}

// traces: what touched the disk and the anchor since this was looked at last is as it should be.
func (r *rig) traces() {
	r.t.Helper()
	r.same()
	traced(r.t, "disk", r.d.Trace()[r.diskSeen:], r.disk)
	traced(r.t, "anchor", r.a.Trace()[r.anchorSeen:], r.anchor)
	r.diskSeen, r.anchorSeen = r.diskSeen+len(r.disk), r.anchorSeen+len(r.anchor)
	r.disk, r.anchor = nil, nil
}

// usesAre: all that this vault has hidden is as it should be, and under nonces that no elder one used.
func (r *rig) usesAre() {
	r.t.Helper()
	uses := r.v.Uses()
	if len(uses) != len(r.m.uses) {
		r.t.Fatalf("P9.6: %d uses, not %d", len(uses), len(r.m.uses))
	}
	own := map[nonce]bool{}
	for i, x := range r.m.uses {
		y := uses[i]
		if y.Epoch != x.Epoch || y.Seq != x.Seq || !bytes.Equal(y.Plain, x.Plain) {
			r.t.Fatalf("P9.6: use %d: %v, not %v", i, y, x)
		}
		by := nonce{y.Epoch, y.Seq}
		if r.used[by] || own[by] {
			r.t.Fatalf("P9.8: the nonce %v is used twice", by)
		}
		own[by] = true
	}
}

// slot: what can be asked of a slot without its being changed is as the model has it.
func (r *rig) slot(slot int) {
	r.t.Helper()
	known := r.m.knows(slot)
	if got := r.v.Known(slot); got != known {
		r.t.Fatalf("P9.3: Known(%d): %v", slot, got)
	}
	b, ok := r.v.Get(slot)
	if ok != known || !known && len(b) != 0 || known && !bytes.Equal(b, page(r.m.now, slot)) {
		r.t.Fatalf("P9.4: Get(%d): %x, %v", slot, b, ok)
	}
	b, e := r.v.Peek(slot)
	if want := r.m.may(slot); e != want || e != api.OK && len(b) != 0 || e == api.OK && !bytes.Equal(b, page(r.m.now, slot)) {
		r.t.Fatalf("P9.4: Peek(%d): %x, %v; not %v", slot, b, e, want)
	}
	if r.v.Known(slot) != known {
		r.t.Fatalf("P9.4: slot %d is known by Get and Peek", slot)
	}
}

// slots: likewise of all of them, and of some that there aren't.
func (r *rig) slots() {
	r.t.Helper()
	for slot := range r.m.slots() {
		r.slot(slot)
	}
	for _, slot := range noSlots(r.m.depth) {
		r.slot(slot)
	}
	r.traces()
	r.usesAre()
}

// noSlots: numbers of slots that there aren't.
func noSlots(depth int) []int {
	n := width(depth)
	return []int{-1, -2, -n, n, n + 1, 4 * n, 256, 257, 1 << 32, 1<<32 + 1, -1 << 32, -1<<32 + 1, math.MinInt, math.MinInt + 1, math.MaxInt, math.MaxInt - 1}
}

// mount: a step of the mounting.
func (r *rig) mount() {
	r.t.Helper()
	m := r.m
	switch {
	case m.ready:
	case !m.entered:
		m.enter()
		r.anchor = append(r.anchor, api.Touch{Kind: api.TouchAnchor, At: int(m.anchor), Bytes: anchorBytes(m.root().Top)})
	default:
		at := m.load()
		b, _ := r.d.Peek(at)
		r.disk = append(r.disk, api.Touch{Kind: api.TouchRead, At: at, Bytes: b})
	}
	if ready, e := r.v.Mount(); ready != m.ready || e != api.OK {
		r.t.Fatalf("P9.2: Mount: %v, %v; not %v", ready, e, m.ready)
	}
	r.same()
}

// mountAll: the vault is ready then.
func (r *rig) mountAll() {
	r.t.Helper()
	for !r.m.ready {
		r.mount()
	}
}

// fetch: a slot is fetched.
func (r *rig) fetch(slot int) {
	r.t.Helper()
	want := r.m.may(slot)
	if want == api.OK && !r.m.knows(slot) {
		at := r.m.recs[place{r.m.depth, slot}].At - 1
		b, _ := r.d.Peek(at)
		r.disk = append(r.disk, api.Touch{Kind: api.TouchRead, At: at, Bytes: b})
		r.m.known[slot] = true
	}
	if e := r.v.Fetch(slot); e != want {
		r.t.Fatalf("P9.3: Fetch(%d): %v, not %v", slot, e, want)
	}
	r.slot(slot)
	r.same()
}

// put: slots hold a block, or, of none, are empty.
func (r *rig) put(b []byte, slots ...int) {
	r.t.Helper()
	for _, slot := range slots {
		given := append([]byte(nil), b...)
		want := r.m.put(slot, b)
		if e := r.v.Put(slot, given); e != want {
			r.t.Fatalf("P9.4: Put(%d, %d bytes): %v, not %v", slot, len(b), e, want)
		}
		if !bytes.Equal(given, b) {
			r.t.Fatalf("Put(%d) changed what it was handed", slot)
		}
		for i := range given { // what was handed in may be written over
			given[i] ^= 0xff
		}
		r.slot(slot)
		r.same()
	}
}

// begin: a commit begins, if it may.
func (r *rig) begin() {
	r.t.Helper()
	want := r.m.begin()
	if got := r.v.Begin(); got != want {
		r.t.Fatalf("P9.5: Begin: %v, not %v", got, want)
	}
	r.same()
}

// push: a commit's next step; whether it was the last one.
func (r *rig) push() bool {
	r.t.Helper()
	if r.m.going == nil {
		if last, e := r.v.Push(); last || e != api.ErrState {
			r.t.Fatalf("P9.5: Push, with none going on: %v, %v", last, e)
		}
		r.same()
		return true
	}
	next, want := r.m.push()
	last, e := r.v.Push()
	if last != want || e != api.OK {
		r.t.Fatalf("P9.5: Push: %v, %v; not %v", last, e, want)
	}
	if next.touch.Kind == api.TouchAnchor {
		r.anchor = append(r.anchor, next.touch)
	} else {
		r.disk = append(r.disk, next.touch)
	}
	if got := r.v.Free(); got != next.free {
		r.t.Fatalf("P9.6: Free behind a commit's step (touch %d): %d, not %d", next.touch.Kind, got, next.free)
	}
	r.same()
	return last
}

// commit: a commit from its beginning to its end; how many steps it had.
func (r *rig) commit() int {
	r.t.Helper()
	r.begin()
	for n := 1; ; n++ {
		if r.push() {
			r.traces()
			return n
		}
	}
}

// renew: a new vault is mounting, on a disk whose writes may still wait.
func (r *rig) renew() {
	r.t.Helper()
	r.traces()
	r.usesAre()
	for _, x := range r.v.Uses() {
		r.used[nonce{x.Epoch, x.Seq}] = true
	}
	r.m.fresh()
	r.v = vaultOf(r.t, r.d, r.a, r.m.w, r.m.depth)
	r.same()
}

// reopen: the disk crashes, and a new vault is mounting.
func (r *rig) reopen(keep ...bool) {
	r.t.Helper()
	r.d.Crash(keep)
	r.renew()
}

// fetchAll: all slots are known then, and hold what they should.
func (r *rig) fetchAll() {
	r.t.Helper()
	r.slots()
	for slot := range r.m.slots() {
		r.fetch(slot)
	}
	r.slots()
}

// putAll: all slots hold blocks of which no two are alike.
func (r *rig) putAll(step int) {
	r.t.Helper()
	for slot := range r.m.slots() {
		r.put(run(step+slot), slot)
	}
}
