package view_test

import (
	"math/rand"
	"testing"

	"oubliette/view"
)

// TestEachScript: all scripts of so many steps, each on a view of its own, and behind all others on one.
func TestEachScript(t *testing.T) {
	a, b := block('a'), block('b')
	s := source{1: a, 2: nil}
	was := s.copied()
	all := []step{see(1), see(2), see(3), see(-1), put(1, a), put(1, b), put(2, b), put(3, nil), put(3, a), put(-1, b)}
	one := view.New(s.get)
	for length := range 5 {
		scripts := 1
		for range length {
			scripts *= len(all)
		}
		for script := range scripts {
			var steps []step
			for left := script; len(steps) < length; left /= len(all) {
				steps = append(steps, all[left%len(all)])
			}
			want := should(s, steps)
			runs(view.New(s.get), steps).is(t, steps, want)
			runs(one, steps).is(t, steps, want)
		}
	}
	s.same(t, was)
}

// TestByChance: long scripts, one behind the other on one view, while the source comes to know more, and other things.
func TestByChance(t *testing.T) {
	r := rand.New(rand.NewSource(1204))
	for range 60 {
		s, slots := source{}, far()
		v := view.New(s.get)
		for range 60 {
			var steps []step
			for range r.Intn(60) {
				slot := slots[r.Intn(len(slots))]
				if r.Intn(2) == 0 {
					steps = append(steps, see(slot))
					continue
				}
				b := make([]byte, []int{0, 1, 256, r.Intn(600)}[r.Intn(4)])
				r.Read(b)
				steps = append(steps, put(slot, b))
			}
			was := s.copied()
			d := runs(v, steps)
			d.is(t, len(steps), should(s, steps))
			s.same(t, was)
			if !d.ok || r.Intn(4) == 0 {
				s[d.slot] = make([]byte, r.Intn(300))
				r.Read(s[d.slot])
			}
		}
	}
}
