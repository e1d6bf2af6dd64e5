package vault_test

import (
	"bytes"
	"math"
	"testing"

	"oubliette/api"
	"oubliette/path"
	"oubliette/vault"
	"oubliette/veil"
	"oubliette/world"
)

// diskOf makes a disk that should do.
func diskOf(t *testing.T, blocks int) *world.Disk {
	t.Helper()
	d, e := world.New(blocks)
	if e != api.OK {
		t.Fatal(e)
	}
	return d
}

// TestExample: the chapter's own, call by call, without the model.
func TestExample(t *testing.T) {
	for depth := 1; depth <= 4; depth++ {
		slot := 5 % path.Slots(depth)
		d, a, w := diskOf(t, need(depth)), world.NewAnchor(), keyed(t)
		v := vaultOf(t, d, a, w, depth)
		if ready, e := v.Mount(); !ready || e != api.OK || a.Touched() != 1 || d.Touched() != 0 || a.Get() != (api.Root{Epoch: 1}) || v.Epoch() != 1 {
			t.Fatalf("P9.2: depth %d: Mount: %v, %v; %d and %d touches, %v", depth, ready, e, a.Touched(), d.Touched(), a.Get())
		}
		if e := v.Put(slot, run(1)); e != api.OK || v.Changed() != 1 || !v.Begin() || v.Changed() != 0 || !v.Going() {
			t.Fatalf("P9.5: depth %d: %v", depth, e)
		}
		for k := range depth + 3 {
			last, e := v.Push()
			if last != (k == depth+2) || e != api.OK || v.Going() == last {
				t.Fatalf("P9.5: depth %d: Push %d: %v, %v", depth, k, last, e)
			}
		}
		if d.Touched() != depth+2 || a.Touched() != 2 || a.Get().Epoch != 2 || v.Epoch() != 2 {
			t.Fatalf("P9.5: depth %d: %d and %d touches, %v", depth, d.Touched(), a.Touched(), a.Get())
		}
		v = vaultOf(t, d, a, w, depth)
		for k := range depth + 1 {
			if ready, e := v.Mount(); ready != (k == depth) || e != api.OK || a.Get().Epoch != 3 || d.Touched() != depth+2+k {
				t.Fatalf("P9.2: depth %d: Mount %d: %v, %v", depth, k, ready, e)
			}
		}
		if v.Known(slot) || v.Fetch(slot) != api.OK || !v.Known(slot) || d.Touched() != 2*depth+3 {
			t.Fatalf("P9.3: depth %d: Known, Fetch(%d)", depth, slot)
		}
		if b, ok := v.Get(slot); !ok || !bytes.Equal(b, run(1)) {
			t.Fatalf("P9.4: depth %d: Get(%d): %x, %v", depth, slot, b, ok)
		}
	}
}

// TestNew: of every depth, of a disk of just as many blocks as are wanted, and of more.
func TestNew(t *testing.T) {
	for depth, blocks := range map[int]int{1: 10, 2: 42, 3: 170, 4: 682} {
		if need(depth) != blocks {
			t.Fatalf("depth %d: %d blocks", depth, need(depth))
		}
		for _, n := range []int{blocks, blocks + 1, 2 * blocks, 1024} {
			if n > 1024 {
				continue
			}
			r := rigOn(t, depth, n-blocks, keyed(t))
			if r.v.Free() != n {
				t.Errorf("P9.6: a disk of %d: Free: %d", n, r.v.Free())
			}
			r.slots()
			r.mountAll()
			if r.v.Free() != n {
				t.Errorf("P9.6: a disk of %d, mounted: Free: %d", n, r.v.Free())
			}
			r.slots()
			r.fetchAll() // all are known: nothing is touched
			if r.d.Touched() != 0 {
				t.Errorf("P9.3: empty slots are read: %d touches", r.d.Touched())
			}
		}
	}
}

// TestNewWrong: no vault of no disk, of no anchor, of a depth that may not be, of a disk with too few blocks.
func TestNewWrong(t *testing.T) {
	w, a := keyed(t), world.NewAnchor()
	big := diskOf(t, 1024)
	wrong := func(d *world.Disk, a *world.Anchor, depth int) {
		t.Helper()
		for _, w := range []*veil.Veil{w, nil} {
			if v, e := vault.New(d, a, w, depth); v != nil || int(e) != 201 {
				t.Errorf("P9.1: New(%d blocks, depth %d): %v, %v; not ErrArg", d.Blocks(), depth, v, e)
			}
		}
	}
	for depth := 1; depth <= 4; depth++ {
		wrong(nil, a, depth)
		wrong(big, nil, depth)
		wrong(nil, nil, depth)
		for _, blocks := range []int{1, need(depth) / 2, need(depth) - 2, need(depth) - 1} {
			wrong(diskOf(t, blocks), a, depth)
		}
	}
	for _, depth := range []int{0, -1, -2, -4, 5, 6, 64, 256, 1 << 32, 1<<32 + 1, -1<<32 + 1, math.MinInt, math.MinInt + 1, math.MaxInt, math.MaxInt - 1} {
		wrong(big, a, depth)
	}
	if big.Touched() != 0 || a.Touched() != 0 {
		t.Error("P9.1: New touches what it is handed")
	}
}

// notReady: each call of a vault that isn't ready; the disk and the anchor aren't touched.
func (r *rig) notReady() {
	r.t.Helper()
	for slot := range r.m.slots() {
		r.fetch(slot)
		r.put(run(slot), slot)
		r.put(nil, slot)
	}
	for _, slot := range noSlots(r.m.depth) {
		r.fetch(slot)
		r.put(run(1), slot)
	}
	r.put(run(1)[:255], 0) // not now comes ahead of a wrong length
	r.begin()
	r.push()
	r.slots()
}

// TestAheadOfTheEnd: each call ahead of the mounting, and behind each step but its last one.
func TestAheadOfTheEnd(t *testing.T) {
	for depth := 1; depth <= 3; depth++ {
		r := rigOn(t, depth, 1, pads())
		r.notReady()
		r.mountAll()
		r.put(run(7), 0, 1, r.m.slots()-1)
		r.commit()
		r.reopen()
		for !r.m.ready {
			r.notReady()
			r.mount()
		}
		r.fetchAll()
	}
}

// TestFetch: a slot is read once, when it is fetched first; what is put, or has no record, isn't read.
func TestFetch(t *testing.T) {
	for depth := 1; depth <= 4; depth++ {
		r := readyOn(t, depth, 0, keyed(t))
		last := r.m.slots() - 1
		r.put(run(1), 0, 1, last)
		r.put(zeros(), 2)
		for _, slot := range []int{0, 1, 2, last} { // put: known
			r.fetch(slot)
		}
		r.commit()
		r.fetch(0) // known behind a commit, too
		r.reopen()
		r.mountAll()
		for _, slot := range []int{0, 1, 2, last} { // they have records, that of bytes 0 too
			if r.v.Known(slot) {
				t.Errorf("P9.3: depth %d: Known(%d)", depth, slot)
			}
		}
		before := r.d.Touched()
		r.fetch(0)
		r.fetch(0)
		if r.d.Touched() != before+1 {
			t.Errorf("P9.3: fetched twice: %d touches", r.d.Touched()-before)
		}
		r.put(run(9), 1)
		r.fetch(1) // put, so it isn't read
		if r.d.Touched() != before+1 {
			t.Errorf("P9.3: fetched behind Put: %d touches", r.d.Touched()-before)
		}
		r.put(nil, last)
		r.fetch(last)
		for _, slot := range noSlots(depth) {
			r.fetch(slot)
		}
		r.fetchAll()
	}
}

// TestPeek: what is known and what isn't is told without a touch, and isn't known by that.
func TestPeek(t *testing.T) {
	for depth := 1; depth <= 4; depth++ {
		r := readyOn(t, depth, 3, keyed(t))
		r.put(run(1), 0, 3)
		r.put(zeros(), 1)
		r.commit()
		r.reopen()
		r.mountAll()
		before := r.d.Touched()
		for range 3 {
			for slot, want := range map[int][]byte{0: run(1), 1: zeros(), 2: zeros(), 3: run(1)} {
				if b, e := r.v.Peek(slot); e != api.OK || !bytes.Equal(b, want) || r.v.Known(slot) != (slot == 2) {
					t.Fatalf("P9.4: depth %d: Peek(%d): %x, %v, known: %v", depth, slot, b, e, r.v.Known(slot))
				}
			}
		}
		r.put(run(5), 3)
		if b, e := r.v.Peek(3); e != api.OK || !bytes.Equal(b, run(5)) {
			t.Errorf("P9.4: Peek of what was put: %x, %v", b, e)
		}
		if r.d.Touched() != before {
			t.Error("P9.4: Peek touches the disk")
		}
		r.slots()
	}
}

// TestPut: a slot holds any block, or is empty; what has another length may not be put.
func TestPut(t *testing.T) {
	r := readyOn(t, 2, 0, keyed(t))
	r.put(run(1), 5)
	for _, n := range []int{1, 2, 16, 128, 254, 255, 257, 258, 512, 4096} {
		r.put(make([]byte, n), 5, 6)
		r.put(make([]byte, n), noSlots(2)...)
	}
	if r.v.Changed() != 1 {
		t.Errorf("P9.4: Changed: %d", r.v.Changed())
	}
	r.slots()
	r.put(run(2), 5)
	r.put(run(2), 5)
	r.put(run(2), noSlots(2)...)
	r.put(nil, noSlots(2)...)
	if r.v.Changed() != 1 {
		t.Errorf("P9.5: a slot that is put twice is changed twice: %d", r.v.Changed())
	}
	r.put([]byte{}, 5)
	r.put(nil, 6)
	r.put(zeros(), 7)
	if r.v.Changed() != 3 {
		t.Errorf("P9.5: Changed: %d", r.v.Changed())
	}
	r.slots()
	if n := r.commit(); n != 5 { // slot 7, the node above it, the root, the barrier, the anchor
		t.Errorf("P9.5: %d steps", n)
	}
	r.slots()
}

// TestNoVault: each call on no vault.
func TestNoVault(t *testing.T) {
	var v *vault.Vault
	if ready, e := v.Mount(); ready || int(e) != 5 {
		t.Errorf("P9.7: Mount: %v, %v", ready, e)
	}
	if last, e := v.Push(); last || int(e) != 205 {
		t.Errorf("P9.7: Push: %v, %v", last, e)
	}
	for _, slot := range append(noSlots(1), 0, 1, 3) {
		if e := v.Fetch(slot); int(e) != 205 {
			t.Errorf("P9.7: Fetch(%d): %v", slot, e)
		}
		if b, e := v.Peek(slot); len(b) != 0 || int(e) != 205 {
			t.Errorf("P9.7: Peek(%d): %x, %v", slot, b, e)
		}
		for _, b := range [][]byte{nil, run(1), {1}} {
			if e := v.Put(slot, b); int(e) != 205 {
				t.Errorf("P9.7: Put(%d, %d bytes): %v", slot, len(b), e)
			}
		}
		if b, ok := v.Get(slot); len(b) != 0 || ok || v.Known(slot) {
			t.Errorf("P9.7: Get(%d): %x, %v", slot, b, ok)
		}
	}
	if v.Ready() || v.Changed() != 0 || v.Begin() || v.Going() || v.Epoch() != 0 || v.Free() != 0 || len(v.Uses()) != 0 {
		t.Error("P9.7: no vault tells something")
	}
}

// TestOwnMemory: what is answered may be written over, and shares nothing with another answer.
func TestOwnMemory(t *testing.T) {
	for _, w := range []*veil.Veil{keyed(t), nil} {
		r := readyOn(t, 1, 0, w)
		spoil := func(b []byte) {
			for i := range b {
				b[i] ^= 0xff
			}
		}
		asked := func() {
			for slot := range 4 {
				b, _ := r.v.Get(slot)
				spoil(b)
				b, _ = r.v.Peek(slot)
				spoil(b)
			}
			for _, x := range r.v.Uses() {
				spoil(x.Plain)
			}
			r.slots()
		}
		asked()
		r.put(run(1), 0, 1)
		asked()
		r.begin()
		for r.m.going != nil {
			asked()
			r.push()
		}
		asked()
		r.reopen()
		r.mountAll()
		asked()
		r.fetch(1)
		asked()
		r.put(run(2), 0)
		r.commit()
		asked()
	}
}

// TestSpareRoom: what lies behind the bytes that are handed in is neither changed nor kept.
func TestSpareRoom(t *testing.T) {
	r := readyOn(t, 1, 0, keyed(t))
	whole := append(run(1), run(2)...)
	if e := r.v.Put(0, whole[:256]); e != api.OK {
		t.Fatal(e)
	}
	if e := r.v.Put(1, whole[:0]); e != api.OK {
		t.Fatal(e)
	}
	if !bytes.Equal(whole, append(run(1), run(2)...)) {
		t.Error("what was handed in is changed")
	}
	b, _ := r.v.Get(0)
	_ = append(b, run(3)...)
	if b, _ := r.v.Get(1); !bytes.Equal(b, zeros()) {
		t.Errorf("P9.4: Get(1): %x", b)
	}
}

// TestNoVeil: a nil veil hides nothing: what is committed lies on the disk as it is.
func TestNoVeil(t *testing.T) {
	r := readyOn(t, 2, 0, nil)
	r.put(run(1), 3, 9)
	r.commit()
	if b, e := r.d.Peek(1); e != api.OK || !bytes.Equal(b, run(1)) {
		t.Errorf("P9.1: the block of slot 9: %x", b)
	}
	r.reopen()
	r.mountAll()
	r.fetchAll()
}

// TestVaultsApart: what is done to one vault isn't done to another one.
func TestVaultsApart(t *testing.T) {
	r, s := readyOn(t, 1, 0, keyed(t)), readyOn(t, 1, 0, keyed(t))
	r.put(run(1), 0, 2)
	s.slots()
	r.begin()
	s.slots()
	s.put(run(2), 1)
	r.push()
	s.commit()
	r.slots()
	s.slots()
}
