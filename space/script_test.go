package space_test

import (
	"math/rand"
	"testing"

	"oubliette/api"
)

// steps: each call that a space may be asked, at each of its blocks and just beside them.
func steps(blocks int) []func(p pair) {
	out := []func(p pair){pair.take, pair.settle}
	for at := -1; at <= blocks; at++ {
		out = append(out,
			func(p pair) { p.mark(at) },
			func(p pair) { p.give(at) },
			func(p pair) { p.undo(at) },
		)
	}
	return out
}

// TestEachScript: all scripts of so many steps, held to the model behind each step.
func TestEachScript(t *testing.T) {
	for _, x := range []struct{ blocks, length int }{{1, 4}, {2, 4}, {3, 3}} {
		all := steps(x.blocks)
		scripts := 1
		for range x.length {
			scripts *= len(all)
		}
		for script := range scripts {
			p := pairOf(t, x.blocks)
			for left, k := script, 0; k < x.length; k++ {
				all[left%len(all)](p)
				p.same()
				left /= len(all)
			}
		}
	}
}

// TestEachState: from each way that few blocks can be, each two steps; then all that is free is told.
func TestEachState(t *testing.T) {
	for blocks := 1; blocks <= 4; blocks++ {
		all, ways := steps(blocks), 1
		for range blocks {
			ways *= 3
		}
		for way := range ways {
			states := make([]int, blocks)
			for left, at := way, 0; at < blocks; at++ {
				states[at] = left % 3
				left /= 3
			}
			for _, first := range all {
				for _, second := range all {
					p := pairOf(t, blocks)
					p.bring(states)
					first(p)
					p.same()
					second(p)
					p.takeAll()
				}
			}
		}
	}
}

// TestByChance: long scripts over spaces of all sizes, most of them near the blocks that words begin and end with.
func TestByChance(t *testing.T) {
	r := rand.New(rand.NewSource(8))
	for _, blocks := range sizes() {
		near, wrong := inWords(blocks), beside(blocks)
		p := pairOf(t, blocks)
		for range 1500 {
			at := r.Intn(blocks)
			switch r.Intn(8) {
			case 0, 1, 2:
				at = near[r.Intn(len(near))]
			case 3:
				at = wrong[r.Intn(len(wrong))]
			}
			switch r.Intn(9) {
			case 0, 1, 2:
				p.take()
			case 3:
				p.mark(at)
			case 4, 5:
				p.give(at)
			case 6:
				p.undo(at)
			case 7:
				for range r.Intn(9) {
					p.take()
				}
			case 8:
				if r.Intn(4) == 0 {
					p.settle()
				}
			}
			p.same()
		}
		p.settle()
		p.takeAll()
	}
}

// TestTakenIsNotToldAgain: what Take told is told again only once it was undone, or given back and settled.
func TestTakenIsNotToldAgain(t *testing.T) {
	r := rand.New(rand.NewSource(81))
	for _, blocks := range sizes() {
		s := pairOf(t, blocks).s
		out := map[int]int{} // what was told and isn't free yet: taken or back
		for range 6 * blocks {
			at, e := s.Take()
			if e == api.NoSpace {
				if len(out) != blocks {
					t.Fatalf("P8.5: of %d blocks: no space, and %d are told", blocks, len(out))
				}
			} else if _, told := out[at]; told || e != api.OK {
				t.Fatalf("P8.5: of %d blocks: Take: %d again, %v", blocks, at, e)
			} else {
				out[at] = taken
			}
			if at = r.Intn(blocks); out[at] == taken && r.Intn(2) == 0 {
				if s.Give(at) != api.OK {
					t.Fatalf("P8.2: of %d blocks: Give(%d)", blocks, at)
				}
				out[at] = back
			} else if out[at] == taken && r.Intn(3) == 0 {
				if s.Undo(at) != api.OK {
					t.Fatalf("P8.2: of %d blocks: Undo(%d)", blocks, at)
				}
				delete(out, at)
			}
			if r.Intn(9) == 0 {
				settled := 0
				for at, state := range out {
					if state == back {
						delete(out, at)
						settled++
					}
				}
				if n := s.Settle(); n != settled {
					t.Fatalf("P8.3: of %d blocks: Settle: %d, not %d", blocks, n, settled)
				}
			}
		}
	}
}

// TestSpacesApart: what is done to one space is not done to another one, and Free and State change nothing.
func TestSpacesApart(t *testing.T) {
	a, b, c := pairOf(t, 130), pairOf(t, 130), pairOf(t, 64)
	a.takeAll()
	b.same()
	c.same()
	a.give(64)
	b.mark(64)
	c.take()
	for range 3 {
		a.same()
		b.same()
		c.same()
	}
	a.settle()
	b.settle()
	c.settle()
	b.undo(64)
	a.same()
	b.same()
	c.same()
	b.takeAll()
	c.takeAll()
	a.drain(64)
}
