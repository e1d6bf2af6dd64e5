package vault_test

import (
	"bytes"
	"slices"
	"testing"

	"oubliette/api"
	"oubliette/path"
	"oubliette/veil"
)

// TestCommitOne: one slot, and again: a step for it and for each node above it, and two more.
func TestCommitOne(t *testing.T) {
	for depth := 1; depth <= 4; depth++ {
		r := readyOn(t, depth, 0, keyed(t))
		for slot := 0; slot < r.m.slots(); slot += 1 + slot/5 {
			for round := range 2 {
				r.put(run(2*slot+round), slot)
				if n := r.commit(); n != depth+3 {
					t.Fatalf("P9.5: depth %d, slot %d: %d steps", depth, slot, n)
				}
			}
		}
		r.slots()
		r.reopen()
		r.mountAll()
		r.fetchAll()
	}
}

// TestCommitSteps: how many steps commits have, told by numbers.
func TestCommitSteps(t *testing.T) {
	for _, x := range []struct {
		depth int
		slots []int
		steps int
	}{
		{1, []int{0, 1}, 5},
		{1, []int{3, 2, 1, 0}, 7},
		{2, []int{0, 1}, 6},
		{2, []int{6, 7, 0}, 8},
		{2, []int{15, 0, 7, 8}, 11},
		{3, []int{4, 5, 6, 7}, 9},
		{3, []int{0, 63}, 9},
		{3, []int{0, 15}, 8},
		{4, []int{128, 129, 130, 131}, 10},
		{4, []int{0, 255}, 11},
		{4, []int{0, 64, 128, 192}, 19},
	} {
		r := readyOn(t, x.depth, 0, keyed(t))
		r.put(run(1), x.slots...)
		if n := r.commit(); n != x.steps {
			t.Errorf("P9.5: depth %d, slots %v: %d steps, not %d", x.depth, x.slots, n, x.steps)
		}
		if want := need(x.depth) - x.steps + 2; r.v.Free() != want {
			t.Errorf("P9.6: depth %d, slots %v: %d free, not %d", x.depth, x.slots, r.v.Free(), want)
		}
		r.put(run(2), x.slots...)
		if n := r.commit(); n != x.steps { // again, on blocks that were free
			t.Errorf("P9.5: depth %d, slots %v, again: %d steps", x.depth, x.slots, n)
		}
		r.put(nil, x.slots...)
		if n := r.commit(); n != 2 || r.v.Free() != need(x.depth) {
			t.Errorf("P9.5: depth %d, slots %v, empty: %d steps, %d free", x.depth, x.slots, n, r.v.Free())
		}
		r.slots()
	}
}

// TestCommitOrder: by rising slots, then the nodes as layer 7 tells them, under rising sequences from 0 on, on the least free blocks; told without the model.
func TestCommitOrder(t *testing.T) {
	r := readyOn(t, 2, 0, nil)
	slots := []int{11, 6, 7, 0}
	for _, slot := range slots {
		r.put(run(slot), slot)
	}
	r.commit()
	slices.Sort(slots)
	trace, uses := r.d.Trace(), r.v.Uses()
	writes := len(slots) + len(path.Above(2, slots))
	if len(trace) != writes+1 || len(uses) != writes || trace[writes].Kind != api.TouchBarrier {
		t.Fatalf("P9.5: %d touches, %d uses", len(trace), len(uses))
	}
	for k, x := range trace[:writes] {
		if x.Kind != api.TouchWrite || x.At != k || uses[k].Epoch != 1 || int(uses[k].Seq) != k {
			t.Errorf("P9.5: step %d: kind %d at %d under %d, %d", k, x.Kind, x.At, uses[k].Epoch, uses[k].Seq)
		}
		if !bytes.Equal(uses[k].Plain, x.Bytes) {
			t.Errorf("P9.6: use %d isn't what was written", k)
		}
		if k < len(slots) && !bytes.Equal(x.Bytes, run(slots[k])) {
			t.Errorf("P9.5: step %d writes %x", k, x.Bytes)
		}
	}
	if top := r.a.Get(); top.Epoch != 2 || top.Top.At != writes || top.Top.Epoch != 1 || int(top.Top.Seq) != writes-1 {
		t.Errorf("P9.5: the anchor holds %v", top)
	}
	r.put(run(1), 6) // the second one: block 7 on, and then what the first one gave back
	r.commit()
	uses = r.v.Uses()
	for k, x := range r.d.Trace()[writes+1:][:3] {
		if x.Kind != api.TouchWrite || x.At != writes+k || uses[writes+k].Epoch != 2 || int(uses[writes+k].Seq) != k {
			t.Errorf("P9.5: the second one's step %d: kind %d at %d under %v", k, x.Kind, x.At, uses[writes+k].Seq)
		}
	}
	r.put(run(2), 6)
	r.commit()
	for k, x := range r.d.Trace()[writes+5:][:3] {
		if want := []int{1, 5, 7}[k]; x.Kind != api.TouchWrite || x.At != want {
			t.Errorf("P9.5: the third one's step %d: at %d, not %d", k, x.At, want)
		}
	}
}

// TestCommitBeneathOneNode: all choices of slots beneath one node, and all that they may be afterwards.
func TestCommitBeneathOneNode(t *testing.T) {
	for depth := 1; depth <= 3; depth++ {
		base := r4(depth)
		for first := range 16 {
			for second := range 81 {
				r := readyOn(t, depth, 0, nil)
				for k := range 4 {
					if first>>k&1 == 1 {
						r.put(run(k), base+k)
					}
				}
				if first != 0 {
					r.commit()
				}
				for left, k := second, 0; k < 4; k, left = k+1, left/3 {
					switch left % 3 {
					case 1:
						r.put(run(10+k), base+k)
					case 2:
						r.put(nil, base+k)
					}
				}
				if second != 0 {
					r.commit()
				}
				r.slots()
				r.reopen()
				r.mountAll()
				r.fetchAll()
			}
		}
	}
}

// r4: the first slot beneath a node in the midst of the last level.
func r4(depth int) int { return width(depth) / 8 * 4 }

// TestCommitAll: all slots, one commit behind the other, many times, on disks of just as many blocks as are wanted.
func TestCommitAll(t *testing.T) {
	for depth, rounds := range map[int]int{1: 60, 2: 40, 3: 12, 4: 5} {
		for _, w := range []*veil.Veil{keyed(t), nil} {
			r := readyOn(t, depth, 0, w)
			writes := need(depth) / 2
			for round := range rounds {
				r.putAll(round)
				if n := r.commit(); n != writes+2 || r.v.Free() != writes {
					t.Fatalf("P9.8: depth %d, round %d: %d steps, %d free", depth, round, n, r.v.Free())
				}
			}
			r.slots()
			r.reopen()
			r.mountAll()
			r.fetchAll()
			r.putAll(rounds)
			r.commit()
			for slot := range r.m.slots() {
				r.put(nil, slot)
			}
			if n := r.commit(); n != 2 || r.v.Free() != need(depth) || r.a.Get().Top != (api.Record{}) {
				t.Errorf("P9.5: depth %d: all put empty: %d steps, %d free, %v", depth, n, r.v.Free(), r.a.Get())
			}
			r.slots()
		}
	}
}

// TestCommitEmpty: what is put empty has no record any more; a node without records neither; a node that has one left is written.
func TestCommitEmpty(t *testing.T) {
	r := readyOn(t, 2, 0, keyed(t))
	r.put(nil, 3)
	if n := r.commit(); n != 2 || r.v.Epoch() != 2 || len(r.v.Uses()) != 0 { // nothing is written, and yet it is a commit
		t.Errorf("P9.5: an empty slot put empty: %d steps", n)
	}
	r.put(run(1), 0, 1, 4)
	r.commit()
	for _, x := range []struct{ slot, steps, free int }{
		{0, 4, 42 - 5}, // its node has slot 1 left: that node, and the root
		{2, 4, 42 - 5}, // it was empty: they are written all the same
		{1, 3, 42 - 3}, // its node has none left: the root
		{4, 2, 42},     // nothing is left
	} {
		r.put(nil, x.slot)
		if n := r.commit(); n != x.steps || r.v.Free() != x.free {
			t.Errorf("P9.5: slot %d put empty: %d steps, %d free; not %d, %d", x.slot, n, r.v.Free(), x.steps, x.free)
		}
		r.slots()
	}
	r.put(zeros(), 4) // a block of bytes 0 is one
	if n := r.commit(); n != 5 {
		t.Errorf("P9.5: bytes 0: %d steps", n)
	}
	r.reopen()
	r.mountAll()
	if r.v.Known(4) || !r.v.Known(3) {
		t.Error("P9.3: Known")
	}
	r.fetchAll()
}

// TestPutDuringACommit: what is put while a commit goes on, ahead of each of its steps, comes with the next one.
func TestPutDuringACommit(t *testing.T) {
	for depth := 1; depth <= 3; depth++ {
		for at := range 2*depth + 5 {
			for _, b := range [][]byte{run(7), zeros(), nil} {
				r := readyOn(t, depth, 0, keyed(t))
				last := r.m.slots() - 1
				r.put(run(1), 0, last)
				r.begin()
				for range at {
					if r.m.going != nil {
						r.push()
					}
				}
				r.put(b, 0, 1)
				r.put(run(8), 1)
				if r.v.Changed() != 2 {
					t.Fatalf("P9.5: Changed: %d", r.v.Changed())
				}
				for r.m.going != nil {
					r.begin() // one goes on: no
					r.push()
					r.slots()
				}
				kept := vaultOf(t, r.d, r.a, r.m.w, depth) // a vault that sees what is committed by now
				for ready := false; !ready; {
					ready, _ = kept.Mount()
				}
				for slot, want := range map[int][]byte{0: run(1), 1: zeros(), last: run(1)} {
					if got, e := kept.Peek(slot); e != api.OK || !bytes.Equal(got, want) {
						t.Fatalf("P9.5: slot %d: %x, %v", slot, got, e)
					}
				}
			}
		}
	}
}

// TestPutDuringACommitComes: and with the next one it is there.
func TestPutDuringACommitComes(t *testing.T) {
	r := readyOn(t, 2, 0, keyed(t))
	r.put(run(1), 0, 5)
	r.begin()
	r.push()
	r.put(run(2), 0, 6)
	r.put(nil, 5)
	for !r.push() {
	}
	if r.v.Changed() != 3 {
		t.Errorf("P9.5: Changed: %d", r.v.Changed())
	}
	r.commit()
	r.reopen()
	r.mountAll()
	r.fetchAll()
}

// TestFetchDuringACommit: what isn't in it is fetched as it was.
func TestFetchDuringACommit(t *testing.T) {
	r := readyOn(t, 2, 0, keyed(t))
	r.putAll(1)
	r.commit()
	r.reopen()
	r.mountAll()
	r.put(run(1), 0, 5)
	r.begin()
	for slot := range 16 {
		r.fetch(slot)
		if r.m.going != nil {
			r.push()
		}
		r.slots()
	}
}

// TestBegin: not with nothing changed, nor while one goes on.
func TestBegin(t *testing.T) {
	r := readyOn(t, 1, 0, keyed(t))
	r.begin()
	r.push()
	r.push()
	r.put(run(1), 2)
	r.begin()
	r.begin()
	r.put(run(2), 2, 3)
	for r.m.going != nil {
		r.begin()
		r.push()
	}
	r.push()
	r.begin()
	r.begin()
	for !r.push() {
	}
	r.begin()
	r.push()
	r.slots()
}

// TestAnchorThatCannotBeSet: another vault has the anchor now: the commit's last step is ErrState, however often it is tried, and nothing has changed by that.
func TestAnchorThatCannotBeSet(t *testing.T) {
	r := readyOn(t, 1, 0, keyed(t))
	r.put(run(1), 0)
	r.commit()
	r.put(run(2), 0, 1)
	r.begin()
	other := vaultOf(t, r.d, r.a, r.m.w, 1)
	if _, e := other.Mount(); e != api.OK {
		t.Fatal(e)
	}
	for range 4 { // two slots, the root, the barrier
		if last, e := r.v.Push(); last || e != api.OK {
			t.Fatalf("P9.5: Push: %v, %v", last, e)
		}
	}
	free, root := r.v.Free(), r.a.Get()
	for range 3 {
		if last, e := r.v.Push(); last || int(e) != 205 {
			t.Fatalf("P9.5: Push: %v, %v; not ErrState", last, e)
		}
		if !r.v.Going() || r.v.Begin() || r.v.Epoch() != 2 || r.v.Free() != free || r.a.Get() != root || r.v.Changed() != 0 || len(r.v.Uses()) != 5 {
			t.Fatal("P9.5: a step that couldn't be changed something")
		}
	}
	if ready, e := other.Mount(); !ready || e != api.OK {
		t.Fatalf("P9.2: %v, %v", ready, e)
	}
	if b, e := other.Peek(0); e != api.OK || !bytes.Equal(b, run(1)) { // what was committed is there
		t.Errorf("P9.8: slot 0: %x, %v", b, e)
	}
	if e := r.v.Put(2, run(3)); e != api.OK || r.v.Changed() != 1 {
		t.Errorf("P9.4: Put: %v", e)
	}
}
