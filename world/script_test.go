package world_test

import (
	"math/rand"
	"testing"

	"oubliette/api"
	"oubliette/world"
)

// model is a disk by the chapter's words, whose blocks are one byte's value each.
type model struct {
	synced  []byte
	waiting []struct{ at, x byte }
	elder   [][]byte // the latest first
	trace   []api.Touch
}

func newModel(blocks int) *model {
	return &model{synced: make([]byte, blocks), elder: make([][]byte, blocks)}
}

func (m *model) now(at int) byte {
	x := m.synced[at]
	for _, w := range m.waiting {
		if int(w.at) == at {
			x = w.x
		}
	}
	return x
}

func (m *model) touch(kind, at int, b []byte) {
	m.trace = append(m.trace, api.Touch{Kind: kind, At: at, Bytes: b})
}

func (m *model) write(at int, x byte) {
	m.waiting = append(m.waiting, struct{ at, x byte }{byte(at), x})
	m.elder[at] = append([]byte{x}, m.elder[at]...)
	m.touch(api.TouchWrite, at, fill(x))
}

func (m *model) crash(keep []bool) {
	for k, w := range m.waiting {
		if k < len(keep) && keep[k] {
			m.synced[w.at] = w.x
		}
	}
	m.waiting = nil
}

func (m *model) barrier() {
	keep := make([]bool, len(m.waiting))
	for k := range keep {
		keep[k] = true
	}
	m.crash(keep)
	m.touch(api.TouchBarrier, 0, nil)
}

func (m *model) force(at int, x byte) {
	var rest []struct{ at, x byte }
	for _, w := range m.waiting {
		if int(w.at) != at {
			rest = append(rest, w)
		}
	}
	m.waiting = rest
	m.synced[at] = x
}

func (m *model) tamper(t api.Tamper) {
	switch t.Kind {
	case api.TamperSet:
		m.force(t.At, t.Bytes[0])
	case api.TamperCopy:
		m.force(t.At, m.now(t.N))
	case api.TamperOld:
		x := byte(0)
		if t.N < len(m.elder[t.At]) {
			x = m.elder[t.At][t.N]
		}
		m.force(t.At, x)
	case api.TamperDrop:
		last := -1
		for k, w := range m.waiting {
			if int(w.at) == t.At {
				last = k
			}
		}
		var rest []struct{ at, x byte }
		for k, w := range m.waiting {
			if k != last {
				rest = append(rest, w)
			}
		}
		m.waiting = rest
	}
}

// step is something done to a disk; x is the value of what is written by it.
type step struct {
	kind int // 0 a read, 1 a write, 2 a barrier, 3 a crash, 4 a tampering, 5 what is refused
	at   int
	keep []bool
	t    api.Tamper
}

func (s step) both(d *world.Disk, m *model, x byte) {
	switch s.kind {
	case 0:
		d.Read(s.at)
		m.touch(api.TouchRead, s.at, fill(m.now(s.at)))
	case 1:
		d.Write(s.at, fill(x))
		m.write(s.at, x)
	case 2:
		d.Barrier()
		m.barrier()
	case 3:
		d.Crash(s.keep)
		m.crash(s.keep)
	case 4:
		t := s.t
		t.Bytes = fill(x)
		d.Tamper(t)
		m.tamper(t)
	case 5:
		d.Read(d.Blocks())
		d.Write(-1, fill(x))
		d.Write(0, fill(x)[1:])
		d.Tamper(api.Tamper{Kind: 1, At: d.Blocks(), Bytes: fill(x)})
		d.Tamper(api.Tamper{Kind: 2, N: d.Blocks()})
		d.Tamper(api.Tamper{Kind: 3, N: -1})
	}
}

// alike holds a disk against its model.
func alike(t *testing.T, d *world.Disk, m *model, script []step) {
	t.Helper()
	hold(t, "P5.1", d, func() []byte {
		var out []byte
		for at := range m.synced {
			out = append(out, m.now(at))
		}
		return out
	}()...)
	waits(t, "P5.2", d, len(m.waiting))
	traced(t, "P5.5", d.Trace(), m.trace, d.Touched())
	if t.Failed() {
		t.Fatalf("behind %v", script)
	}
}

// TestShortScripts: all scripts of four steps on a disk of two blocks.
func TestShortScripts(t *testing.T) {
	steps := []step{
		{kind: 0, at: 0}, {kind: 1, at: 0}, {kind: 1, at: 1}, {kind: 2}, {kind: 3}, {kind: 3, keep: []bool{true}}, {kind: 3, keep: []bool{false, true, true, true}},
		{kind: 4, t: api.Tamper{Kind: 1}}, {kind: 4, t: api.Tamper{Kind: 2, N: 1}}, {kind: 4, t: api.Tamper{Kind: 2}},
		{kind: 4, t: api.Tamper{Kind: 3}}, {kind: 4, t: api.Tamper{Kind: 3, N: 1}}, {kind: 4, t: api.Tamper{Kind: 4}}, {kind: 5},
	}
	script := make([]step, 4)
	n := len(steps)
	for code := range n * n * n * n {
		for i, rest := 0, code; i < len(script); i, rest = i+1, rest/n {
			script[i] = steps[rest%n]
		}
		d, m := disk(t, 2), newModel(2)
		for i, s := range script {
			s.both(d, m, byte(i+1))
		}
		alike(t, d, m, script)
		for i := range 2 {
			last := step{kind: 4, t: api.Tamper{Kind: api.TamperOld, N: i}}
			last.both(d, m, 9)
			alike(t, d, m, append(script, last))
		}
	}
}

// chance: a step by chance.
func chance(r *rand.Rand, blocks int) step {
	s := step{kind: []int{0, 1, 1, 1, 1, 1, 2, 3, 4, 4, 5}[r.Intn(11)], at: r.Intn(blocks)}
	s.keep = make([]bool, r.Intn(12))
	for k := range s.keep {
		s.keep[k] = r.Intn(2) == 1
	}
	s.t = api.Tamper{Kind: 1 + r.Intn(4), At: r.Intn(blocks), N: r.Intn(blocks)}
	return s
}

func TestLongScripts(t *testing.T) {
	r := rand.New(rand.NewSource(5))
	for _, blocks := range []int{1, 2, 5, 9} {
		for range 40 {
			d, m := disk(t, blocks), newModel(blocks)
			var script []step
			for i := range 120 {
				script = append(script, chance(r, blocks))
				script[i].both(d, m, byte(1+r.Intn(255)))
				if i%10 == 9 {
					alike(t, d, m, script)
				}
			}
		}
	}
}

// TestSyncedIsThere: without tampering, what was synced is read behind every crash, and of what wasn't, what was kept.
func TestSyncedIsThere(t *testing.T) {
	r := rand.New(rand.NewSource(56))
	for range 300 {
		d, want := disk(t, 4), make([]byte, 4)
		for range 6 {
			for range r.Intn(5) {
				at, x := r.Intn(4), byte(r.Intn(256))
				write(t, d, at, x)
				want[at] = x
			}
			d.Barrier()
			var keep []bool
			behind := append([]byte(nil), want...)
			for range r.Intn(6) {
				at, x, kept := r.Intn(4), byte(r.Intn(256)), r.Intn(2) == 1
				write(t, d, at, x)
				keep = append(keep, kept)
				if kept {
					behind[at] = x
				}
			}
			d.Crash(keep)
			hold(t, "P5.6", d, behind...)
			want = behind
		}
	}
}
