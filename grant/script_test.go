package grant_test

import (
	"math/rand"
	"slices"
	"testing"

	"oubliette/api"
	"oubliette/grant"
)

// pair: a super, and the model that it is held to.
type pair struct {
	t *testing.T
	s api.Super
	m model
}

func pairOf(t *testing.T, s api.Super) *pair {
	return &pair{t, s, modelOf(s)}
}

func (p *pair) take(slots int) {
	p.t.Helper()
	s := p.s
	slot, code := p.m.take(slots)
	p.s = p.m.super()
	takes(p.t, s, slots, p.s, slot, code)
	if code == api.OK && (s.Used[slot] || slot >= slots) {
		p.t.Fatalf("P10.5: slot %d of %d: %v", slot, slots, s)
	}
}

func (p *pair) give(slot int) {
	p.t.Helper()
	s := p.s
	p.m.give(slot)
	p.s = p.m.super()
	gives(p.t, s, slot, p.s)
}

func (p *pair) add(slots int) {
	p.t.Helper()
	s := p.s
	ino, code := p.m.add(slots)
	p.s = p.m.super()
	adds(p.t, s, slots, p.s, ino, code)
}

func (p *pair) remove(ino int) {
	p.t.Helper()
	s := p.s
	p.m.remove(ino)
	p.s = p.m.super()
	removes(p.t, s, ino, p.s)
}

// orphan: an inode that there is has no name any more.
func (p *pair) orphan(ino int) {
	if ino > 0 && p.m.inodes[ino] != 0 {
		p.m.orphans[ino] = true
		p.s = p.m.super()
	}
}

// same: so many are used, so many are there, and there is a block of it, or none, if it may not be.
func (p *pair) same() {
	p.t.Helper()
	counts(p.t, p.s, len(p.m.used), p.m.count())
	if p.m.mayBe() {
		packs(p.t, p.s)
	} else if b, e := grant.Pack(p.s); b != nil || e != api.ErrArg {
		p.t.Fatalf("P10.1: Pack(%v): %x, %v; not ErrArg", p.s, b, e)
	}
}

// TestEachScript: all scripts of four steps over few slots, held to the model behind each step.
func TestEachScript(t *testing.T) {
	var all []func(p *pair)
	for n := range 4 {
		all = append(all,
			func(p *pair) { p.take(n + 1) },
			func(p *pair) { p.add(n + 1) },
			func(p *pair) { p.give(n) },
			func(p *pair) { p.remove(n) },
		)
	}
	var from func(p pair, left int)
	from = func(p pair, left int) {
		p.same()
		for _, step := range all {
			if left > 0 {
				next := pairOf(t, p.s)
				step(next)
				from(*next, left-1)
			}
		}
	}
	from(*pairOf(t, grant.New()), 4)
}

// near: a number of those that a part begins and ends with, or any one up to a limit, or none that there is.
func near(r *rand.Rand, limit int, not []int) int {
	switch r.Intn(8) {
	case 0:
		return []int{0, 1, 2, 7, 8, 9, 63, 64, 65, limit - 1, limit}[r.Intn(11)]
	case 1:
		return not[r.Intn(len(not))]
	}
	return r.Intn(limit + 1)
}

// TestByChance: long scripts; Take and Add that go on over what Give and Remove left.
func TestByChance(t *testing.T) {
	r := rand.New(rand.NewSource(104))
	for range 60 {
		p := pairOf(t, byChance(r))
		limit := near(r, 256, many())
		for range 200 {
			switch r.Intn(9) {
			case 0, 1:
				p.take(limit)
			case 2, 3:
				p.add(limit)
			case 4:
				p.give(near(r, 255, noSlots()))
			case 5, 6:
				p.remove(near(r, 64, noInodes()))
			case 7:
				p.orphan(near(r, 64, noInodes()))
			case 8:
				limit = near(r, 256, append(few(), many()...))
			}
			p.same()
		}
	}
}

// TestSoundStays: without Give of an inode's slot, what may be comes to what may be.
func TestSoundStays(t *testing.T) {
	r := rand.New(rand.NewSource(105))
	for range 40 {
		p := pairOf(t, byChance(r))
		var given []int // slots that Take told, each once till it is given
		for range 300 {
			switch r.Intn(4) {
			case 0:
				slot, e := 0, api.OK
				if p.s, slot, e = grant.Take(p.s, 200); e == api.OK {
					if slices.Contains(given, slot) || slot >= 200 {
						t.Fatalf("P10.5: Take: %d, behind %v", slot, given)
					}
					given = append(given, slot)
				}
			case 1:
				if n := len(given); n > 0 {
					at := r.Intn(n)
					p.s = grant.Give(p.s, given[at])
					given = slices.Delete(given, at, at+1)
				}
			case 2:
				p.s, _, _ = grant.Add(p.s, 200)
			case 3:
				p.s = grant.Remove(p.s, r.Intn(66))
			}
			if b, e := grant.Pack(p.s); e != api.OK || len(b) != 256 {
				t.Fatalf("P10.5: Pack(%v): %v", p.s, e)
			}
		}
	}
}

// TestOfWhatMayNotBe: no call panics, and each does what its words say, whatever it is handed.
func TestOfWhatMayNotBe(t *testing.T) {
	r := rand.New(rand.NewSource(106))
	odd := append(noSlots(), 0, 1, 2, 255)
	for range 400 {
		s := byChance(r)
		for range 1 + r.Intn(4) {
			ino := near(r, 63, []int{0, 64})
			switch r.Intn(5) {
			case 0:
				s.Used[0] = false
			case 1:
				s.Inodes[ino&63] = odd[r.Intn(len(odd))]
			case 2:
				s.Orphans[ino&63] = !s.Orphans[ino&63]
			case 3:
				s.Serial = 0
			case 4:
				s.Inodes[64], s.Inodes[1] = s.Inodes[1], s.Inodes[ino&63]
			}
		}
		for range 6 {
			for _, call := range []func(p *pair){
				func(p *pair) { p.take(near(r, 256, many())) },
				func(p *pair) { p.give(near(r, 255, noSlots())) },
				func(p *pair) { p.add(near(r, 256, many())) },
				func(p *pair) { p.remove(near(r, 64, noInodes())) },
			} {
				p := pairOf(t, s)
				p.same()
				call(p)
				p.same()
			}
		}
	}
}
