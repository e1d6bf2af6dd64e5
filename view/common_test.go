package view_test

import (
	"bytes"
	"maps"
	"math"
	"slices"
	"testing"

	"oubliette/api"
	"oubliette/view"
)

// block: a whole block whose every byte is that.
func block(c byte) []byte {
	return bytes.Repeat([]byte{c}, api.BlockLen)
}

// source is the slots that are known, and what they hold.
type source map[int][]byte

func (s source) get(slot int) ([]byte, bool) {
	b, ok := s[slot]
	return b, ok
}

// copied: a source that shares no memory with this one.
func (s source) copied() source {
	out := source{}
	for slot, b := range s {
		out[slot] = bytes.Clone(b)
	}
	return out
}

// same: a source still holds what it held.
func (s source) same(t *testing.T, want source) {
	t.Helper()
	if !maps.EqualFunc(s, want, bytes.Equal) {
		t.Fatalf("P12.2: the source was changed: %x, not %x", s, want)
	}
}

// step is something that a function does: a slot is seen, or a block put there.
type step struct {
	put  bool
	slot int
	b    []byte
}

func see(slot int) step           { return step{slot: slot} }
func put(slot int, b []byte) step { return step{true, slot, b} }

// did is what came of a run: what Run answered, the blocks seen, and the changes.
type did struct {
	slot    int
	ok      bool
	seen    [][]byte
	changes []api.Put
}

// runs: what comes of steps that a view runs.
func runs(v *view.View, steps []step) did {
	var d did
	d.slot, d.ok = v.Run(func() {
		for _, x := range steps {
			if x.put {
				v.Put(x.slot, x.b)
			} else {
				d.seen = append(d.seen, v.See(x.slot))
			}
		}
	})
	d.changes = v.Changes()
	return d
}

// last: the last of the steps that puts a block there.
func last(steps []step, slot int) (step, bool) {
	for _, x := range slices.Backward(steps) {
		if x.put && x.slot == slot {
			return x, true
		}
	}
	return step{}, false
}

// should: what should come of steps, by the chapter's words: of each step on its own, looking back from it.
func should(s source, steps []step) did {
	var d did
	for k, x := range steps {
		if x.put {
			continue
		}
		b, known := s[x.slot]
		if own, ok := last(steps[:k], x.slot); ok {
			b, known = own.b, true
		}
		if !known {
			return did{slot: x.slot, seen: d.seen}
		}
		d.seen = append(d.seen, b)
	}
	d.ok = true
	var slots []int
	for _, x := range steps {
		slots = append(slots, x.slot)
	}
	slices.Sort(slots)
	for _, slot := range slices.Compact(slots) {
		if own, ok := last(steps, slot); ok {
			d.changes = append(d.changes, api.Put{Slot: slot, Block: own.b})
		}
	}
	return d
}

func samePuts(a, b []api.Put) bool {
	return slices.EqualFunc(a, b, func(x, y api.Put) bool {
		return x.Slot == y.Slot && bytes.Equal(x.Block, y.Block)
	})
}

// is: what came of steps is what should.
func (d did) is(t *testing.T, what any, want did) {
	t.Helper()
	if d.slot != want.slot || d.ok != want.ok {
		t.Fatalf("P12.3: %v: Run: %d, %v; not %d, %v", what, d.slot, d.ok, want.slot, want.ok)
	}
	if !slices.EqualFunc(d.seen, want.seen, bytes.Equal) {
		t.Fatalf("P12.2: %v: seen: %x, not %x", what, d.seen, want.seen)
	}
	if !samePuts(d.changes, want.changes) {
		t.Fatalf("P12.4: %v: Changes: %x, not %x", what, d.changes, want.changes)
	}
}

// changes: a view has these, by slots and blocks in turn.
func changes(t *testing.T, v *view.View, want ...any) {
	t.Helper()
	var puts []api.Put
	for k := 0; k < len(want); k += 2 {
		puts = append(puts, api.Put{Slot: want[k].(int), Block: want[k+1].([]byte)})
	}
	if got := v.Changes(); !samePuts(got, puts) {
		t.Fatalf("P12.4: Changes: %x, not %x", got, puts)
	}
}

// ends: a run comes to its end.
func ends(t *testing.T, v *view.View, f func()) {
	t.Helper()
	if slot, ok := v.Run(f); slot != 0 || !ok {
		t.Fatalf("P12.3: Run: %d, %v; not 0, true", slot, ok)
	}
}

// wants: a run ends at a slot that isn't known, and the view has no changes.
func wants(t *testing.T, v *view.View, want int, f func()) {
	t.Helper()
	if slot, ok := v.Run(f); slot != want || ok {
		t.Fatalf("P12.2: Run: %d, %v; not %d, false", slot, ok, want)
	}
	changes(t, v)
}

// sees: what a view sees of a slot; within a run.
func sees(t *testing.T, v *view.View, slot int, want []byte) {
	t.Helper()
	if b := v.See(slot); !bytes.Equal(b, want) {
		t.Fatalf("P12.2: See(%d): %x, not %x", slot, b, want)
	}
}

// scrub: all that a list of bytes has room for is written over.
func scrub(b []byte) {
	b = b[:cap(b)]
	for i := range b {
		b[i] = 0xee
	}
}

// far: slots of all kinds, such as a source may know though no volume has them.
func far() []int {
	return []int{
		0, 1, -1, 2, -2, 15, 16, 255, 256, 257, -255, -256, 1 << 31, 1 << 32, 1<<32 + 1, -1 << 32,
		math.MinInt32, math.MaxInt32, math.MinInt, math.MinInt + 1, math.MaxInt, math.MaxInt - 1,
	}
}
