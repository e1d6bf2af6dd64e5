package vault_test

import (
	"bytes"
	"math"
	"math/rand"
	"slices"
	"testing"

	"oubliette/api"
	"oubliette/vault"
	"oubliette/veil"
	"oubliette/world"
)

// grown: a rig whose tree was committed several times, so that its blocks have elder bytes.
func grown(t *testing.T, depth int) *rig {
	t.Helper()
	r := readyOn(t, depth, 0, pads())
	last := r.m.slots() - 1
	for round := range 4 {
		r.put(run(10*round), 0, 1, last)
		r.put(run(10*round+1), 2)
		r.commit()
	}
	r.reopen()
	return r
}

// meddle does what should do.
func (r *rig) meddle(kind, at, n int, b []byte) {
	r.t.Helper()
	if e := r.d.Tamper(api.Tamper{Kind: kind, At: at, N: n, Bytes: b}); e != api.OK {
		r.t.Fatal(e)
	}
}

// read: what a block is.
func (r *rig) read(at int) []byte {
	r.t.Helper()
	b, e := r.d.Peek(at)
	if e != api.OK {
		r.t.Fatal(e)
	}
	return b
}

// others: what an adversary may put in a block's place: bits turned, the block lost, elder bytes of it, other blocks' bytes.
func (r *rig) others(at int) [][]byte {
	is := r.read(at)
	out := [][]byte{zeros(), run(77)}
	for _, bit := range []int{0, 1, 7, 8, 800, 1343, 1344, 2046, 2047} {
		b := append([]byte(nil), is...)
		b[bit/8] ^= 1 << (bit % 8)
		out = append(out, b)
	}
	for back := range 5 {
		r.meddle(api.TamperOld, at, back, nil)
		out = append(out, r.read(at))
		r.meddle(api.TamperSet, at, 0, is)
	}
	for other := range r.d.Blocks() {
		out = append(out, r.read(other))
	}
	return slices.DeleteFunc(out, func(b []byte) bool { return bytes.Equal(b, is) })
}

// bad: each call of a vault that is bad; nothing is touched by it.
func bad(t *testing.T, v *vault.Vault, d *world.Disk, a *world.Anchor) {
	t.Helper()
	touched, root, epoch, free := d.Touched(), a.Get(), v.Epoch(), v.Free()
	for range 3 {
		if ready, e := v.Mount(); ready || int(e) != 5 {
			t.Fatalf("P9.2: Mount: %v, %v; not IO", ready, e)
		}
		for _, slot := range []int{0, 1, 3, -1, 256, math.MaxInt, math.MinInt} {
			if e := v.Fetch(slot); int(e) != 205 {
				t.Fatalf("P9.3: Fetch(%d): %v", slot, e)
			}
			if b, e := v.Peek(slot); len(b) != 0 || int(e) != 205 {
				t.Fatalf("P9.4: Peek(%d): %x, %v", slot, b, e)
			}
			for _, b := range [][]byte{run(1), nil, {1}} {
				if e := v.Put(slot, b); int(e) != 205 {
					t.Fatalf("P9.4: Put(%d): %v", slot, e)
				}
			}
			if b, ok := v.Get(slot); ok || len(b) != 0 || v.Known(slot) {
				t.Fatalf("P9.4: Get(%d): %x, %v", slot, b, ok)
			}
		}
		if last, e := v.Push(); last || int(e) != 205 || v.Begin() || v.Going() || v.Changed() != 0 || v.Ready() || len(v.Uses()) != 0 {
			t.Fatalf("P9.5: Push: %v, %v, or else", last, e)
		}
	}
	if d.Touched() != touched || a.Get() != root || v.Epoch() != epoch || v.Free() != free {
		t.Fatal("P9.2: a vault that is bad touches something")
	}
}

// steps: how many steps a new vault's mounting has till it is ready, or bad; the vault.
func (r *rig) steps() (int, *vault.Vault, api.Errno) {
	v := vaultOf(r.t, r.d, r.a, r.m.w, r.m.depth)
	for n := 1; ; n++ {
		if ready, e := v.Mount(); ready || e != api.OK {
			return n, v, e
		}
	}
}

// TestMeddledNodes: a node that is another one: the mounting is bad at the step that reads it, and another one's is good when it is as it was.
func TestMeddledNodes(t *testing.T) {
	for depth := 1; depth <= 3; depth++ {
		r := grown(t, depth)
		step := 1
		for _, at := range places(depth) {
			rec, ok := r.m.recs[at]
			if !ok {
				continue
			}
			step++
			is := r.read(rec.At - 1)
			for k, b := range r.others(rec.At - 1) {
				r.meddle(api.TamperSet, rec.At-1, 0, b)
				n, v, e := r.steps()
				if n != step || e != api.IO {
					t.Fatalf("P9.2: depth %d, node %v, way %d: %d steps, %v; not IO behind %d", depth, at, k, n, e, step)
				}
				bad(t, v, r.d, r.a)
				r.meddle(api.TamperSet, rec.At-1, 0, is)
				bad(t, v, r.d, r.a) // it stays so
			}
			n, v, e := r.steps()
			if e != api.OK || n != 1+r.nodes() {
				t.Fatalf("P9.2: depth %d, node %v as it was: %d steps, %v", depth, at, n, e)
			}
			r.holdsAll(v)
		}
	}
}

// nodes: how many nodes have a record.
func (r *rig) nodes() int {
	n := 0
	for _, at := range places(r.m.depth) {
		if _, ok := r.m.recs[at]; ok {
			n++
		}
	}
	return n
}

// holdsAll: all slots are fetched, and hold what was committed.
func (r *rig) holdsAll(v *vault.Vault) {
	r.t.Helper()
	for slot := range r.m.slots() {
		if e := v.Fetch(slot); e != api.OK {
			r.t.Fatalf("P9.3: Fetch(%d): %v", slot, e)
		}
		if b, ok := v.Get(slot); !ok || !bytes.Equal(b, page(r.m.saved, slot)) {
			r.t.Fatalf("P9.8: Get(%d): %x, %v", slot, b, ok)
		}
	}
}

// TestMeddledSlots: a slot's block that is another one: IO, as often as it is tried; the others are right; when it is as it was it is fetched.
func TestMeddledSlots(t *testing.T) {
	for depth := 1; depth <= 3; depth++ {
		r := grown(t, depth)
		last := r.m.slots() - 1
		for _, slot := range []int{0, 1, 2, last} {
			rec, ok := r.m.recs[place{depth, slot}]
			if !ok {
				t.Fatalf("slot %d has no record", slot)
			}
			is := r.read(rec.At - 1)
			for k, b := range r.others(rec.At - 1) {
				r.meddle(api.TamperSet, rec.At-1, 0, b)
				_, v, e := r.steps()
				if e != api.OK {
					t.Fatalf("P9.2: depth %d, slot %d, way %d: %v", depth, slot, k, e)
				}
				for range 3 {
					touched := r.d.Touched()
					if b, e := v.Peek(slot); len(b) != 0 || int(e) != 5 || r.d.Touched() != touched {
						t.Fatalf("P9.4: Peek(%d): %x, %v; not IO", slot, b, e)
					}
					if e := v.Fetch(slot); int(e) != 5 || v.Known(slot) || r.d.Touched() != touched+1 {
						t.Fatalf("P9.3: Fetch(%d): %v; not IO", slot, e)
					}
					if b, ok := v.Get(slot); ok || len(b) != 0 {
						t.Fatalf("P9.4: Get(%d): %x, %v", slot, b, ok)
					}
				}
				for other := range r.m.slots() {
					if e := v.Fetch(other); other != slot && e != api.OK {
						t.Fatalf("P9.3: Fetch(%d): %v", other, e)
					}
				}
				r.meddle(api.TamperSet, rec.At-1, 0, is)
				r.holdsAll(v)
				r.meddle(api.TamperSet, rec.At-1, 0, b) // known by now
				r.holdsAll(v)
				r.meddle(api.TamperSet, rec.At-1, 0, is)
			}
		}
	}
}

// TestMeddledSlotIsPut: what can't be fetched may be put, and is right behind the next commit.
func TestMeddledSlotIsPut(t *testing.T) {
	for _, b := range [][]byte{run(50), zeros(), nil} {
		r := grown(t, 2)
		r.mountAll()
		r.meddle(api.TamperSet, r.m.recs[place{2, 1}].At-1, 0, run(77))
		if e := r.v.Fetch(1); e != api.IO {
			t.Fatalf("P9.3: Fetch(1): %v", e)
		}
		r.disk = append(r.disk, api.Touch{Kind: api.TouchRead, At: r.m.recs[place{2, 1}].At - 1, Bytes: run(77)})
		r.put(b, 1)
		r.commit()
		r.reopen()
		r.mountAll()
		r.fetchAll()
	}
}

// TestDroppedWrites: a commit's write that is lost ahead of the barrier: the mounting is bad, or the slot can't be fetched.
func TestDroppedWrites(t *testing.T) {
	const writes = 6 // slots 0, 1 and 15, two nodes, the root
	for at := range writes {
		r := readyOn(t, 2, 0, pads())
		r.put(run(1), 0, 1, 15)
		r.begin()
		for k := range writes + 2 {
			r.push()
			if k == at {
				r.meddle(api.TamperDrop, k, 0, nil)
			}
		}
		if at >= 3 {
			if n, v, e := r.steps(); e != api.IO || n != []int{3, 4, 2}[at-3] {
				t.Errorf("P9.8: write %d is lost: %d steps, %v; %v", at, n, e, v.Ready())
			}
			continue
		}
		_, v, e := r.steps()
		if e != api.OK {
			t.Fatalf("P9.8: write %d is lost: %v", at, e)
		}
		for k, slot := range []int{0, 1, 15} {
			if e := v.Fetch(slot); (e == api.IO) != (k == at) || (e == api.OK) != (k != at) {
				t.Errorf("P9.8: write %d is lost: Fetch(%d): %v", at, slot, e)
			}
		}
	}
}

// image: all blocks.
func (r *rig) image() [][]byte {
	var out [][]byte
	for at := range r.d.Blocks() {
		out = append(out, r.read(at))
	}
	return out
}

// TestOldImages: the whole disk as it was once: the mounting is bad; with the last image it is right.
func TestOldImages(t *testing.T) {
	for depth := 1; depth <= 3; depth++ {
		r := readyOn(t, depth, 0, keyed(t))
		images := [][][]byte{r.image()}
		for round := range 5 {
			r.put(run(7), 0, round%r.m.slots()) // the same bytes, again and again
			r.commit()
			images = append(images, r.image())
		}
		r.reopen()
		for k, image := range images {
			for at, b := range image {
				r.meddle(api.TamperSet, at, 0, b)
			}
			n, v, e := r.steps()
			if k < len(images)-1 {
				if n != 2 || e != api.IO {
					t.Errorf("P9.8: depth %d, image %d: %d steps, %v", depth, k, n, e)
				}
				continue
			}
			if e != api.OK {
				t.Fatalf("P9.8: depth %d, the last image: %v", depth, e)
			}
			r.holdsAll(v)
		}
	}
}

// TestMeddlingByChance: whatever is done to the disk, at any time: a mounting or a fetch is IO, or what is got is what was committed.
func TestMeddlingByChance(t *testing.T) {
	c := rand.New(rand.NewSource(99))
	var failed, mounted, lost, right int
	for range 1500 {
		depth := 1 + c.Intn(2)
		r := readyOn(t, depth, 0, nil) // bytes that aren't hidden are as easily meddled with as can be
		old := r.image()
		for range 1 + c.Intn(4) {
			for range 1 + c.Intn(4) {
				r.put([][]byte{run(c.Intn(5)), zeros(), nil}[c.Intn(3)], c.Intn(r.m.slots()))
			}
			r.begin()
			for !r.push() {
				r.foul(c, old)
			}
			if c.Intn(3) == 0 {
				old = r.image()
			}
		}
		for range c.Intn(3) {
			r.foul(c, old)
		}
		r.d.Crash(nil)
		_, v, e := r.steps()
		if e == api.IO {
			failed++
			bad(t, v, r.d, r.a)
			continue
		}
		mounted++
		for slot := range r.m.slots() {
			b, e := v.Peek(slot)
			switch f := v.Fetch(slot); {
			case e != f || e != api.OK && e != api.IO:
				t.Fatalf("P9.3: Peek(%d), Fetch: %v, %v", slot, e, f)
			case e == api.IO:
				lost++
			case !bytes.Equal(b, page(r.m.saved, slot)):
				t.Fatalf("P9.8: slot %d: %x, not %x", slot, b, r.m.saved[slot])
			default:
				right++
			}
		}
	}
	if failed == 0 || mounted == 0 || lost == 0 || right == 0 {
		t.Errorf("nothing was met: %d, %d, %d, %d", failed, mounted, lost, right)
	}
}

// foul: an adversary does something, now and then.
func (r *rig) foul(c *rand.Rand, old [][]byte) {
	if c.Intn(6) != 0 {
		return
	}
	at, n := c.Intn(r.d.Blocks()), c.Intn(r.d.Blocks())
	switch c.Intn(6) {
	case 0:
		b := r.read(at)
		b[c.Intn(256)] ^= 1 << c.Intn(8)
		r.meddle(api.TamperSet, at, 0, b)
	case 1:
		r.meddle(api.TamperCopy, at, n, nil)
	case 2:
		r.meddle(api.TamperOld, at, c.Intn(4), nil)
	case 3:
		r.meddle(api.TamperDrop, at, 0, nil)
	case 4:
		r.meddle(api.TamperSet, at, 0, old[n])
	case 5:
		for at, b := range old {
			r.meddle(api.TamperSet, at, 0, b)
		}
	}
}

// forged: a disk and an anchor with a tree that no vault made; records lie by their places.
type forged struct {
	d    *world.Disk
	a    *world.Anchor
	w    *veil.Veil
	recs map[place]api.Record
	seq  uint32
}

func newForged(t *testing.T, depth int) *forged {
	t.Helper()
	return &forged{d: diskOf(t, need(depth)), a: world.NewAnchor(), w: keyed(t), recs: map[place]api.Record{}}
}

// lay: a block lies there, sealed, and a record leads to it.
func (f *forged) lay(at place, block int, plain []byte) {
	hidden, r := seal(f.w, block, nonce{0, f.seq}, plain)
	f.seq++
	f.d.Write(block, hidden)
	f.recs[at] = r
}

// node: a node's block lies there, of the records that there are beneath it.
func (f *forged) node(at place, block int) {
	b, _ := packed(f.recs, at)
	f.lay(at, block, b)
}

// vault: the anchor's root is this record, and a vault is mounting.
func (f *forged) vault(t *testing.T, depth int) *vault.Vault {
	t.Helper()
	f.d.Barrier()
	if e := f.a.Set(api.Root{Epoch: 1, Top: f.recs[place{}]}); e != api.OK {
		t.Fatal(e)
	}
	return vaultOf(t, f.d, f.a, f.w, depth)
}

// mounts: how a mounting ends, and how often the disk was read till then.
func (f *forged) mounts(t *testing.T, v *vault.Vault) (api.Errno, int) {
	t.Helper()
	before := f.d.Touched()
	for range 400 {
		if ready, e := v.Mount(); ready || e != api.OK {
			return e, f.d.Touched() - before
		}
	}
	t.Fatal("P9.2: a mounting has no end")
	return 0, 0
}

// TestForgedRoots: a root's record that names a block that isn't there, or isn't this one's.
func TestForgedRoots(t *testing.T) {
	for _, at := range []int{11, 12, 1023, 1024, 1025, 1 << 16, 1<<32 + 1, -1, -10, -1 << 32, math.MaxInt, math.MinInt} {
		f := newForged(t, 1)
		f.node(place{}, 3)
		r := f.recs[place{}]
		r.At = at
		f.recs[place{}] = r
		v := f.vault(t, 1)
		e, reads := f.mounts(t, v)
		if e != api.IO || reads != 0 || f.a.Touched() != 2 || f.a.Get() != (api.Root{Epoch: 2, Top: r}) {
			t.Errorf("P9.2: a root at %d: %v, %d reads, %v", at, e, reads, f.a.Get())
		}
		bad(t, v, f.d, f.a)
	}
	for way := range 5 {
		f := newForged(t, 1)
		f.lay(place{1, 2}, 4, run(1))
		f.node(place{}, 3)
		r := f.recs[place{}]
		switch way {
		case 0:
			r.At = 5 // another block
		case 1:
			r.Epoch++
		case 2:
			r.Seq++
		case 3:
			r.Sum[31]++
		}
		f.recs[place{}] = r
		v := f.vault(t, 1)
		e, reads := f.mounts(t, v)
		if (e == api.IO) != (way < 4) || reads != 1 {
			t.Errorf("P9.2: a root's record, way %d: %v, %d reads", way, e, reads)
		}
		if way < 4 {
			bad(t, v, f.d, f.a)
		} else if b, e := v.Peek(2); e != api.OK || !bytes.Equal(b, run(1)) || v.Free() != 8 {
			t.Errorf("P9.2: a tree that is good: %x, %v", b, e)
		}
	}
}

// TestForgedNoRoot: an anchor whose record is none (At 0), whatever else it has: the tree has no records.
func TestForgedNoRoot(t *testing.T) {
	f := newForged(t, 1)
	f.recs[place{}] = api.Record{Epoch: 4, Seq: 5, Sum: api.Sum{6}}
	v := f.vault(t, 1)
	if e, reads := f.mounts(t, v); e != api.OK || reads != 0 || f.a.Get() != (api.Root{Epoch: 2, Top: f.recs[place{}]}) || v.Free() != 10 {
		t.Errorf("P9.2: no root: %v, %d reads, %v", e, reads, f.a.Get())
	}
	for slot := range 4 {
		if b, ok := v.Get(slot); !ok || !bytes.Equal(b, zeros()) {
			t.Errorf("P9.4: Get(%d): %x, %v", slot, b, ok)
		}
	}
}

// TestForgedNodes: a node that is digested as it should be, and yet is none, or names a block that isn't there, or that is taken.
func TestForgedNodes(t *testing.T) {
	slot := func(at int) func(f *forged) {
		return func(f *forged) {
			f.recs[place{2, 1}] = api.Record{At: at, Epoch: 7}
			f.node(place{1, 0}, 2)
			f.node(place{}, 1)
		}
	}
	shared := func(k int) func(f *forged) {
		return func(f *forged) {
			f.lay(place{2, 0}, 3, run(1))
			f.recs[place{2, k}] = f.recs[place{2, 0}]
			f.node(place{1, 0}, 2)
			if k >= 4 {
				f.node(place{1, k / 4}, 4)
			}
			f.node(place{}, 1)
		}
	}
	form := func(of place, byteAt int) func(f *forged) {
		return func(f *forged) {
			f.lay(place{2, 0}, 3, run(1))
			b, _ := packed(f.recs, place{1, 0})
			if of.level == 1 {
				b[byteAt] ^= 1
			}
			f.lay(place{1, 0}, 2, b)
			b, _ = packed(f.recs, place{})
			if of.level == 0 {
				b[byteAt] ^= 1
			}
			f.lay(place{}, 1, b)
		}
	}
	for k, x := range []struct {
		do    func(f *forged)
		reads int
	}{
		{slot(43), 2}, {slot(44), 2}, {slot(1024), 2}, // not there: the disk has 42
		{slot(2), 2}, {slot(3), 2}, // the root's block, and the node's own
		{shared(1), 2}, {shared(3), 2}, {shared(4), 3}, {shared(15), 3}, // another slot's
		{form(place{}, 255), 1}, {form(place{}, 168), 1}, {form(place{}, 90), 1}, // no node's block
		{form(place{1, 0}, 255), 2}, {form(place{1, 0}, 168), 2}, {form(place{1, 0}, 90), 2},
		{func(f *forged) { // the root beneath itself: the record of another node's place leads to it
			f.recs[place{1, 3}] = api.Record{At: 2, Epoch: 7}
			f.node(place{}, 1)
		}, 1},
		{func(f *forged) { // one node at two places
			f.lay(place{2, 0}, 3, run(1))
			f.node(place{1, 0}, 2)
			f.recs[place{1, 1}] = f.recs[place{1, 0}]
			f.node(place{}, 1)
		}, 1},
		{func(f *forged) { // a slot's record leads to another node's block
			f.lay(place{2, 4}, 3, run(1))
			f.node(place{1, 1}, 4)
			f.recs[place{2, 0}] = f.recs[place{1, 1}]
			f.node(place{1, 0}, 2)
			f.node(place{}, 1)
		}, 2},
		{func(f *forged) { // a node that isn't there
			f.recs[place{1, 2}] = api.Record{At: 43}
			f.node(place{}, 1)
		}, 1},
	} {
		f := newForged(t, 2)
		x.do(f)
		v := f.vault(t, 2)
		if e, reads := f.mounts(t, v); e != api.IO || reads != x.reads {
			t.Errorf("P9.2: way %d: %v, %d reads; not IO behind %d", k, e, reads, x.reads)
		}
		bad(t, v, f.d, f.a)
	}
}

// TestForgedButGood: a tree that no vault made, and that is as it may be: it is mounted, and what it took is free again when it is replaced; a node without records that lies in a block is none, too.
func TestForgedButGood(t *testing.T) {
	f := newForged(t, 2)
	f.lay(place{2, 5}, 41, run(1))
	f.lay(place{2, 6}, 0, zeros())
	f.node(place{1, 1}, 20)
	f.lay(place{1, 3}, 7, zeros())
	f.node(place{}, 11)
	v := f.vault(t, 2)
	if e, reads := f.mounts(t, v); e != api.OK || reads != 3 || v.Free() != 42-5 {
		t.Fatalf("P9.2: %v, %d reads, %d free", e, reads, v.Free())
	}
	for slot := range 16 {
		if v.Known(slot) != (slot != 5 && slot != 6) {
			t.Errorf("P9.3: Known(%d)", slot)
		}
	}
	for _, slot := range []int{5, 6, 12} {
		if e := v.Put(slot, nil); e != api.OK {
			t.Fatal(e)
		}
	}
	if !v.Begin() {
		t.Fatal("P9.5: Begin")
	}
	for k := range 2 {
		if last, e := v.Push(); last != (k == 1) || e != api.OK {
			t.Fatalf("P9.5: Push %d: %v, %v", k, last, e)
		}
	}
	if v.Free() != 42 || f.a.Get() != (api.Root{Epoch: 3}) {
		t.Errorf("P9.5: %d free, %v", v.Free(), f.a.Get())
	}
}

// TestOtherVeil: under another key the root's block is no node's.
func TestOtherVeil(t *testing.T) {
	r := grown(t, 1)
	v := vaultOf(t, r.d, r.a, keyed(t), 1)
	if _, e := v.Mount(); e != api.OK {
		t.Fatal(e)
	}
	if ready, e := v.Mount(); ready || e != api.IO {
		t.Errorf("P9.2: under another key: %v, %v", ready, e)
	}
	bad(t, v, r.d, r.a)
}
