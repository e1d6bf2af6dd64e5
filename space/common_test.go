package space_test

import (
	"math"
	"testing"

	"oubliette/api"
	"oubliette/space"
)

// How a block is, as State tells it.
const (
	free  = 0
	taken = 1
	back  = 2
)

// model: a space by the chapter's words, each block's state on its own.
type model []int

func (m model) has(at int) bool { return at >= 0 && at < len(m) }

// count: how many blocks are so.
func (m model) count(state int) int {
	n := 0
	for _, x := range m {
		if x == state {
			n++
		}
	}
	return n
}

func (m model) take() (int, api.Errno) {
	for at, x := range m {
		if x == free {
			m[at] = taken
			return at, api.OK
		}
	}
	return 0, api.NoSpace
}

// change: a block that is so comes to be otherwise.
func (m model) change(at, from, to int) api.Errno {
	if !m.has(at) {
		return api.ErrArg
	}
	if m[at] != from {
		return api.ErrState
	}
	m[at] = to
	return api.OK
}

func (m model) settle() int {
	n := 0
	for at, x := range m {
		if x == back {
			m[at] = free
			n++
		}
	}
	return n
}

// pair: a space, and the model that it is held to. The first fault ends a test, for many steps follow.
type pair struct {
	t *testing.T
	s *space.Space
	m model
}

// pairOf makes a space that should do.
func pairOf(t *testing.T, blocks int) pair {
	t.Helper()
	s, e := space.New(blocks)
	if e != api.OK || s == nil {
		t.Fatalf("P8.1: New(%d): %v, %v", blocks, s, e)
	}
	return pair{t, s, make(model, blocks)}
}

func (p pair) take() {
	p.t.Helper()
	at, e := p.s.Take()
	if want, code := p.m.take(); at != want || e != code {
		p.t.Fatalf("P8.2: of %d blocks: Take: %d, %v; not %d, %v", len(p.m), at, e, want, code)
	}
}

// answers: a call at a block is answered as the model says.
func (p pair) answers(name string, at int, got, want api.Errno) {
	p.t.Helper()
	if got != want {
		p.t.Fatalf("P8.2: of %d blocks: %s(%d): %v, not %v", len(p.m), name, at, got, want)
	}
}

func (p pair) mark(at int) {
	p.t.Helper()
	p.answers("Mark", at, p.s.Mark(at), p.m.change(at, free, taken))
}

func (p pair) give(at int) {
	p.t.Helper()
	p.answers("Give", at, p.s.Give(at), p.m.change(at, taken, back))
}

func (p pair) undo(at int) {
	p.t.Helper()
	p.answers("Undo", at, p.s.Undo(at), p.m.change(at, taken, free))
}

func (p pair) settle() {
	p.t.Helper()
	if got, want := p.s.Settle(), p.m.settle(); got != want {
		p.t.Fatalf("P8.3: of %d blocks: Settle: %d, not %d", len(p.m), got, want)
	}
}

// same: each block is as the model has it, so many are free, and the three kinds are all blocks together.
func (p pair) same() {
	p.t.Helper()
	if got := p.s.Free(); got != p.m.count(free) {
		p.t.Fatalf("P8.3: of %d blocks: Free: %d, not %d", len(p.m), got, p.m.count(free))
	}
	var n [3]int
	for at, want := range p.m {
		got := p.s.State(at)
		if got != want {
			p.t.Fatalf("P8.3: of %d blocks: State(%d): %d, not %d", len(p.m), at, got, want)
		}
		n[got]++
	}
	if n[free] != p.s.Free() || n[free]+n[taken]+n[back] != len(p.m) {
		p.t.Fatalf("P8.5: of %d blocks %d are free, %d taken, %d given back; Free: %d", len(p.m), n[free], n[taken], n[back], p.s.Free())
	}
	for _, at := range beside(len(p.m)) {
		if got := p.s.State(at); got != -1 {
			p.t.Fatalf("P8.3: of %d blocks: State(%d): %d, not -1", len(p.m), at, got)
		}
	}
}

// takeAll: blocks are taken till none is free, and twice again.
func (p pair) takeAll() {
	p.t.Helper()
	for range p.m.count(free) + 2 {
		p.take()
		p.same()
	}
}

// drain: what Take tells by and by is that, and then there is no space; the model stays behind.
func (p pair) drain(want ...int) {
	p.t.Helper()
	for _, at := range want {
		if got, e := p.s.Take(); got != at || e != api.OK {
			p.t.Fatalf("P8.2: of %d blocks: Take: %d, %v; not %d", len(p.m), got, e, at)
		}
	}
	if got, e := p.s.Take(); got != 0 || e != api.NoSpace {
		p.t.Fatalf("P8.2: of %d blocks: Take: %d, %v; not 0, NoSpace", len(p.m), got, e)
	}
}

// bring: a fresh space's blocks come to these states, and the model's with them.
func (p pair) bring(states []int) {
	p.t.Helper()
	for at, state := range states {
		if state != free {
			p.mark(at)
		}
		if state == back {
			p.give(at)
		}
	}
	p.same()
}

// beside: some numbers of blocks that there aren't.
func beside(blocks int) []int {
	return []int{
		-1, -2, -63, -64, -65, -api.MaxBlocks, -blocks, -blocks - 1, blocks, blocks + 1, blocks + 63, blocks + 64, 2 * blocks,
		api.MaxBlocks, api.MaxBlocks + 1, api.MaxBlocks + 64, 1 << 32, 1<<32 + 1, -1 << 32, -1<<32 + 1,
		math.MinInt32, math.MaxInt32, math.MinInt, math.MinInt + 1, math.MaxInt, math.MaxInt - 1,
	}
}

// sizes: one block, and as many as words of several lengths have bits, one fewer and one more; to the greatest space.
func sizes() []int {
	return []int{1, 2, 3, 7, 8, 9, 15, 16, 17, 31, 32, 33, 63, 64, 65, 127, 128, 129, 682, 1000, 1022, 1023, 1024}
}

// inWords: the first and last blocks of words of several lengths, of those that a space has.
func inWords(blocks int) []int {
	var out []int
	for _, at := range []int{0, 1, 7, 8, 15, 16, 31, 32, 33, 62, 63, 64, 65, 127, 128, 129, 191, 192, 511, 512, 959, 960, 1022, 1023, blocks / 2, blocks - 1} {
		if at >= 0 && at < blocks {
			out = append(out, at)
		}
	}
	return out
}
