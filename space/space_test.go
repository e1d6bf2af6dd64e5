package space_test

import (
	"math"
	"testing"

	"oubliette/api"
	"oubliette/space"
)

// TestExample: the chapter's own, call by call.
func TestExample(t *testing.T) {
	s, e := space.New(3)
	if e != api.OK {
		t.Fatalf("P8.1: New(3): %v", e)
	}
	takes := func(want int, code api.Errno) {
		t.Helper()
		if at, e := s.Take(); at != want || e != code {
			t.Errorf("P8.2: Take: %d, %v; not %d, %v", at, e, want, code)
		}
	}
	takes(0, api.OK)
	takes(1, api.OK)
	if e := s.Give(0); e != api.OK {
		t.Errorf("P8.2: Give(0): %v", e)
	}
	takes(2, api.OK)
	takes(0, api.NoSpace)
	if n := s.Settle(); n != 1 {
		t.Errorf("P8.3: Settle: %d", n)
	}
	takes(0, api.OK)
	takes(0, api.NoSpace)
}

// TestNew: spaces of every size that may be have so many free blocks.
func TestNew(t *testing.T) {
	for blocks := 1; blocks <= api.MaxBlocks; blocks++ {
		p := pairOf(t, blocks)
		p.same()
		if n := p.s.Free(); n != blocks {
			t.Fatalf("P8.1: New(%d): %d free", blocks, n)
		}
	}
}

// TestNewWrong: no space of fewer blocks than one, nor of more than there may be.
func TestNewWrong(t *testing.T) {
	for _, blocks := range []int{
		0, -1, -2, -64, -1024, 1025, 1026, 1088, 2048, 1 << 16, 1 << 32, 1<<32 + 1, 1<<32 + 1024, -1 << 32, -1<<32 + 1,
		math.MinInt32, math.MaxInt32, math.MinInt, math.MinInt + 1, math.MaxInt, math.MaxInt - 1,
	} {
		if s, e := space.New(blocks); s != nil || e != api.ErrArg {
			t.Errorf("P8.1: New(%d): %v, %v", blocks, s, e)
		}
	}
}

// TestTakeAll: all blocks by rising numbers, each once, and then no space, as often as is asked.
func TestTakeAll(t *testing.T) {
	for blocks := 1; blocks <= api.MaxBlocks; blocks++ {
		s := pairOf(t, blocks).s
		for want := range blocks {
			if at, e := s.Take(); at != want || e != api.OK {
				t.Fatalf("P8.2: of %d blocks: Take: %d, %v; not %d", blocks, at, e, want)
			}
		}
		for range 3 {
			if at, e := s.Take(); at != 0 || e != api.NoSpace {
				t.Fatalf("P8.2: of %d blocks: Take again: %d, %v", blocks, at, e)
			}
		}
		if n := s.Free(); n != 0 {
			t.Fatalf("P8.3: of %d blocks: Free: %d", blocks, n)
		}
	}
	for _, blocks := range sizes() {
		pairOf(t, blocks).takeAll()
	}
}

// TestEachStateAtEachBlock: Mark, Give and Undo at a block that is free, taken, given back; the others, whatever they are, stay as they are.
func TestEachStateAtEachBlock(t *testing.T) {
	calls := []func(p pair, at int){pair.mark, pair.give, pair.undo}
	for _, blocks := range sizes() {
		for _, at := range inWords(blocks) {
			for state := free; state <= back; state++ {
				for _, others := range []int{free, taken, back} {
					for _, call := range calls {
						p := pairOf(t, blocks)
						states := make([]int, blocks)
						for i := range states {
							states[i] = others
						}
						states[at] = state
						p.bring(states)
						call(p, at)
						p.same()
						call(p, at)
						p.same()
					}
				}
			}
		}
	}
}

// TestMarkByHand: what each call answers at a block of each state, without the model.
func TestMarkByHand(t *testing.T) {
	for _, x := range []struct {
		state            int
		mark, give, undo api.Errno
	}{
		{free, api.OK, api.ErrState, api.ErrState},
		{taken, api.ErrState, api.OK, api.OK},
		{back, api.ErrState, api.ErrState, api.ErrState},
	} {
		for _, at := range []int{0, 62, 63, 64, 65, 99} {
			for i, want := range []api.Errno{x.mark, x.give, x.undo} {
				p := pairOf(t, 100)
				states := make([]int, 100)
				states[at] = x.state
				p.bring(states)
				got := []func(int) api.Errno{p.s.Mark, p.s.Give, p.s.Undo}[i](at)
				is := x.state
				if want == api.OK {
					is = []int{taken, back, free}[i]
				}
				if got != want || p.s.State(at) != is {
					t.Errorf("P8.2: call %d at block %d of state %d: %v, state %d; not %v, %d", i, at, x.state, got, p.s.State(at), want, is)
				}
			}
		}
	}
}

// TestUndo: what is undone is free at once, and is the least free block again, if it is the least.
func TestUndo(t *testing.T) {
	for _, blocks := range sizes() {
		for _, at := range inWords(blocks) {
			p := pairOf(t, blocks)
			p.takeAll()
			p.undo(at)
			p.same()
			p.drain(at)
		}
		if blocks > 1 {
			p := pairOf(t, blocks)
			p.takeAll()
			p.undo(blocks - 1)
			p.undo(0)
			p.same()
			p.drain(0, blocks-1)
		}
	}
}

// TestGive: what was given back isn't told, nor marked, nor undone, nor given again, till the space settles.
func TestGive(t *testing.T) {
	for _, blocks := range sizes() {
		for _, at := range inWords(blocks) {
			p := pairOf(t, blocks)
			p.takeAll()
			p.give(at)
			p.same()
			for range 2 {
				p.take()
				p.mark(at)
				p.give(at)
				p.undo(at)
				p.same()
			}
			if e := p.s.Mark(at); e != api.ErrState {
				t.Errorf("P8.5: Mark(%d) of what was given back: %v", at, e)
			}
			p.settle()
			p.same()
			p.drain(at)
		}
	}
}

// TestGiveTellsWhatIsLess: a block given back that is less than all free ones isn't told, but the next one; settled, it is.
func TestGiveTellsWhatIsLess(t *testing.T) {
	for _, blocks := range sizes() {
		for _, at := range inWords(blocks - 1) {
			p := pairOf(t, blocks)
			for range at + 1 {
				p.take()
			}
			p.give(at)
			p.same()
			if got, e := p.s.Take(); got != at+1 || e != api.OK {
				t.Fatalf("P8.5: of %d blocks: Take behind Give(%d): %d, %v", blocks, at, got, e)
			}
			if n := p.s.Settle(); n != 1 {
				t.Fatalf("P8.3: of %d blocks: Settle behind Give(%d): %d", blocks, at, n)
			}
			if got, e := p.s.Take(); got != at || e != api.OK {
				t.Fatalf("P8.2: of %d blocks: Take behind Give(%d) and Settle: %d, %v", blocks, at, got, e)
			}
		}
	}
}

// TestSettle: of none, of one, of many and of all; a second one behind it finds none.
func TestSettle(t *testing.T) {
	for _, blocks := range sizes() {
		for _, each := range []int{1, 2, 3, 31, 32, 33, 63, 64, 65, 127, 1023, 1024} {
			p := pairOf(t, blocks)
			p.settle()
			p.same()
			p.takeAll()
			p.settle()
			p.same()
			var given []int
			for at := each - 1; at < blocks; at += each {
				p.give(at)
				given = append(given, at)
			}
			p.same()
			if n := p.s.Settle(); n != len(given) || n != p.m.settle() {
				t.Fatalf("P8.3: of %d blocks %d given back: Settle: %d", blocks, len(given), n)
			}
			p.same()
			if n := p.s.Settle(); n != 0 {
				t.Fatalf("P8.3: of %d blocks: a second Settle: %d", blocks, n)
			}
			p.same()
			p.drain(given...)
		}
	}
}

// TestNoSuchBlock: ErrArg and not ErrState, State -1, and nothing has changed, whatever the blocks are that there are.
func TestNoSuchBlock(t *testing.T) {
	for _, blocks := range sizes() {
		for fill := range 4 {
			p := pairOf(t, blocks)
			states := make([]int, blocks)
			for at := range states {
				states[at] = (at*fill + fill) % 3
			}
			p.bring(states)
			wrong := beside(blocks)
			for i := range 1100 {
				wrong = append(wrong, blocks+i, -1-i)
			}
			for _, at := range wrong {
				for i, got := range []api.Errno{p.s.Mark(at), p.s.Give(at), p.s.Undo(at)} {
					if got != api.ErrArg {
						t.Fatalf("P8.2: of %d blocks: call %d at %d: %v, not ErrArg", blocks, i, at, got)
					}
				}
				if got := p.s.State(at); got != -1 {
					t.Fatalf("P8.3: of %d blocks: State(%d): %d", blocks, at, got)
				}
			}
			p.same()
			p.settle()
			p.takeAll()
		}
	}
}

// TestNoSpace: what is answered of no space.
func TestNoSpace(t *testing.T) {
	var s *space.Space
	if at, e := s.Take(); at != 0 || e != api.ErrArg {
		t.Errorf("P8.4: Take: %d, %v", at, e)
	}
	for _, at := range append(beside(1), 0, 1, 2, 63, 64, 1023) {
		for i, got := range []api.Errno{s.Mark(at), s.Give(at), s.Undo(at)} {
			if got != api.ErrArg {
				t.Errorf("P8.4: call %d at %d: %v", i, at, got)
			}
		}
		if got := s.State(at); got != -1 {
			t.Errorf("P8.4: State(%d): %d", at, got)
		}
	}
	if n := s.Settle(); n != 0 {
		t.Errorf("P8.4: Settle: %d", n)
	}
	if n := s.Free(); n != 0 {
		t.Errorf("P8.4: Free: %d", n)
	}
}
