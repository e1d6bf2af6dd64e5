package vault_test

import (
	"crypto/sha256"
	"encoding/binary"
	"maps"

	"oubliette/api"
	"oubliette/veil"
)

// place is where a node is, or, on the level behind the last one's, a slot.
type place struct{ level, index int }

// nonce is an epoch and a sequence.
type nonce struct{ epoch, seq uint32 }

// planned is a step of a commit: what it touches, what it hides, and how many blocks are free behind it.
type planned struct {
	touch api.Touch
	use   api.Use
	free  int
}

// commit is what a commit comes to: its steps, and how all is behind the last one.
type commit struct {
	steps []planned
	recs  map[place]api.Record
	taken map[int]bool
	saved map[int][]byte
}

// model: a vault by the chapter's words, on a disk and an anchor with which nobody meddles. A slot that isn't in a map of blocks is empty.
type model struct {
	depth, blocks int
	w             *veil.Veil

	anchor uint32               // its epoch
	recs   map[place]api.Record // of the tree that the anchor's root tells
	saved  map[int][]byte       // what that holds

	entered, ready bool
	epoch, seq     uint32
	unread         []place
	taken          map[int]bool
	known          map[int]bool // what was fetched or put
	now            map[int][]byte
	changed        map[int]bool
	going          *commit
	uses           []api.Use
}

// newModel: of a disk and an anchor that nothing has touched.
func newModel(depth, blocks int, w *veil.Veil) *model {
	m := &model{depth: depth, blocks: blocks, w: w, recs: map[place]api.Record{}, saved: map[int][]byte{}}
	m.fresh()
	return m
}

// fresh: a vault that is mounting.
func (m *model) fresh() {
	m.entered, m.ready, m.epoch, m.seq = false, false, 0, 0
	m.unread, m.taken, m.going, m.uses = nil, map[int]bool{}, nil, nil
	m.known, m.changed, m.now = map[int]bool{}, map[int]bool{}, maps.Clone(m.saved)
}

// width: how many places a level has.
func width(level int) int { return 1 << (2 * level) }

// slots: how many slots there are.
func (m *model) slots() int { return width(m.depth) }

// has: whether there is such a slot.
func (m *model) has(slot int) bool { return slot >= 0 && slot < m.slots() }

// places: all nodes, the root first; with the slots behind them, if they are asked for.
func places(levels int) []place {
	var out []place
	for level := range levels {
		for index := range width(level) {
			out = append(out, place{level, index})
		}
	}
	return out
}

// need: how many blocks a disk must have.
func need(depth int) int { return 2 * len(places(depth+1)) }

// root: what the anchor holds.
func (m *model) root() api.Root {
	return api.Root{Epoch: m.anchor, Top: m.recs[place{}]}
}

// free: how many blocks aren't among these.
func (m *model) free(taken map[int]bool) int { return m.blocks - len(taken) }

// enter: the mounting's first step.
func (m *model) enter() {
	m.anchor++
	m.entered, m.epoch = true, m.anchor
	for _, r := range m.recs {
		m.taken[r.At-1] = true
	}
	for _, at := range places(m.depth) {
		if _, ok := m.recs[at]; ok {
			m.unread = append(m.unread, at)
		}
	}
	m.ready = len(m.unread) == 0
}

// load: another step of the mounting; the block that it reads.
func (m *model) load() int {
	at := m.recs[m.unread[0]].At - 1
	m.unread = m.unread[1:]
	m.ready = len(m.unread) == 0
	return at
}

// knows: whether a slot is known.
func (m *model) knows(slot int) bool {
	if !m.ready || !m.has(slot) {
		return false
	}
	_, written := m.recs[place{m.depth, slot}]
	return m.known[slot] || !written
}

// may: what a call that names a slot is answered at the least.
func (m *model) may(slot int) api.Errno {
	switch {
	case !m.ready:
		return api.ErrState
	case !m.has(slot):
		return api.ErrArg
	}
	return api.OK
}

// put: a slot holds something else.
func (m *model) put(slot int, b []byte) api.Errno {
	if e := m.may(slot); e != api.OK {
		return e
	}
	switch len(b) {
	case 0:
		delete(m.now, slot)
	case 256:
		m.now[slot] = append([]byte(nil), b...)
	default:
		return api.ErrArg
	}
	m.known[slot], m.changed[slot] = true, true
	return api.OK
}

// page: a slot's block.
func page(of map[int][]byte, slot int) []byte {
	out := make([]byte, 256)
	copy(out, of[slot])
	return out
}

// least: the least block that isn't taken.
func least(taken map[int]bool) int {
	at := 0
	for taken[at] {
		at++
	}
	return at
}

// le: a number's bytes, the least one first.
func le(v uint32) []byte { return binary.LittleEndian.AppendUint32(nil, v) }

// seal: a block's hidden bytes and its record, by the chapters of layers 4 and 6 and the library's digests.
func seal(w *veil.Veil, at int, by nonce, plain []byte) ([]byte, api.Record) {
	hidden := append([]byte(nil), plain...)
	for i, x := range w.Mask(by.epoch, by.seq, len(plain)) {
		hidden[i] ^= x
	}
	text := append(append(le(by.epoch), le(by.seq)...), hidden...)
	return hidden, api.Record{At: at + 1, Epoch: by.epoch, Seq: by.seq, Sum: sha256.Sum256(text)}
}

// packed: a node's block, and whether it has a record.
func packed(recs map[place]api.Record, at place) ([]byte, bool) {
	out, some := make([]byte, 256), false
	for k := range 4 {
		r, ok := recs[place{at.level + 1, 4*at.index + k}]
		if !ok {
			continue
		}
		some = true
		b := binary.LittleEndian.AppendUint16(nil, uint16(r.At))
		b = append(append(append(b, le(r.Epoch)...), le(r.Seq)...), r.Sum[:]...)
		copy(out[42*k:], b)
	}
	return out, some
}

// above: whether a node is on the way to a slot.
func (m *model) above(at place, slot int) bool {
	return slot>>(2*(m.depth-at.level)) == at.index
}

// anchorBytes: a record as an anchor's trace tells it.
func anchorBytes(r api.Record) []byte {
	return append(append(append(le(uint32(r.At)), le(r.Epoch)...), le(r.Seq)...), r.Sum[:]...)
}

// begin: a commit begins, if it may; all that it will come to is worked out at once.
func (m *model) begin() bool {
	if !m.ready || m.going != nil || len(m.changed) == 0 {
		return false
	}
	c := &commit{recs: maps.Clone(m.recs), taken: maps.Clone(m.taken), saved: maps.Clone(m.saved)}
	var gone []int
	set := func(at place, plain []byte, written bool) {
		if old, ok := m.recs[at]; ok {
			gone = append(gone, old.At-1)
		}
		delete(c.recs, at)
		if !written {
			return
		}
		b := least(c.taken)
		c.taken[b] = true
		hidden, r := seal(m.w, b, nonce{m.epoch, m.seq}, plain)
		c.recs[at] = r
		c.steps = append(c.steps, planned{
			touch: api.Touch{Kind: api.TouchWrite, At: b, Bytes: hidden},
			use:   api.Use{Epoch: m.epoch, Seq: m.seq, Plain: append([]byte(nil), plain...)},
			free:  m.free(c.taken),
		})
		m.seq++
	}
	touched := map[place]bool{}
	for slot := range m.slots() {
		if !m.changed[slot] {
			continue
		}
		b, full := m.now[slot]
		set(place{m.depth, slot}, b, full)
		delete(c.saved, slot)
		if full {
			c.saved[slot] = b
		}
		for _, at := range places(m.depth) {
			touched[at] = touched[at] || m.above(at, slot)
		}
	}
	for level := m.depth - 1; level >= 0; level-- {
		for index := range width(level) {
			if at := (place{level, index}); touched[at] {
				b, some := packed(c.recs, at)
				set(at, b, some)
			}
		}
	}
	c.steps = append(c.steps, planned{touch: api.Touch{Kind: api.TouchBarrier}, free: m.free(c.taken)})
	for _, at := range gone {
		delete(c.taken, at)
	}
	c.steps = append(c.steps, planned{
		touch: api.Touch{Kind: api.TouchAnchor, At: int(m.epoch) + 1, Bytes: anchorBytes(c.recs[place{}])},
		free:  m.free(c.taken),
	})
	m.going, m.changed = c, map[int]bool{}
	return true
}

// push: a commit's next step, and whether it was the last one.
func (m *model) push() (planned, bool) {
	c := m.going
	next := c.steps[0]
	c.steps = c.steps[1:]
	if next.touch.Kind == api.TouchWrite {
		m.uses = append(m.uses, next.use)
	}
	if len(c.steps) > 0 {
		return next, false
	}
	m.anchor++
	m.epoch, m.seq = m.anchor, 0
	m.recs, m.taken, m.saved, m.going = c.recs, c.taken, c.saved, nil
	return next, true
}
