package view_test

import (
	"slices"
	"testing"

	"oubliette/view"
)

// TestRunsApart: a run begins without the changes of the one ahead, and sees what the source holds.
func TestRunsApart(t *testing.T) {
	s := source{1: block('s'), 2: nil}
	v := view.New(s.get)
	ends(t, v, func() {
		v.Put(1, block('a'))
		v.Put(2, block('b'))
		v.Put(3, block('c'))
	})
	changes(t, v, 1, block('a'), 2, block('b'), 3, block('c'))
	ends(t, v, func() {
		changes(t, v)
		sees(t, v, 1, block('s'))
		sees(t, v, 2, nil)
		v.Put(2, block('d'))
	})
	changes(t, v, 2, block('d'))
	wants(t, v, 3, func() { v.See(3) })
	ends(t, v, func() { v.Put(4, block('e')) })
	changes(t, v, 4, block('e'))
	ends(t, v, func() {})
	changes(t, v)
	s.same(t, source{1: block('s'), 2: nil})
}

// TestRunOnce: a function is run, once, ahead of Run's answer.
func TestRunOnce(t *testing.T) {
	v := view.New(source{}.get)
	n := 0
	ends(t, v, func() { n++ })
	wants(t, v, 1, func() {
		n += 10
		v.See(1)
	})
	if n != 11 {
		t.Fatalf("P12.3: run %d times", n)
	}
}

// TestWanted: at slots of all kinds the run ends there, behind puts and slots that are known; nothing behind that See is done.
func TestWanted(t *testing.T) {
	for _, slot := range far() {
		s := source{slot + 1: block('a'), slot - 1: nil}
		v := view.New(s.get)
		for _, ahead := range []func(){
			func() {},
			func() { v.See(slot + 1) },
			func() { v.Put(slot+1, block('b')) },
			func() {
				v.Put(slot+2, block('b'))
				v.Put(slot-1, nil)
				v.See(slot + 2)
				v.See(slot - 1)
			},
		} {
			behind := false
			for range 2 {
				wants(t, v, slot, func() {
					ahead()
					v.See(slot)
					behind = true
					v.Put(slot, block('c'))
				})
			}
			if behind {
				t.Fatalf("P12.2: the run went on behind See(%d)", slot)
			}
			ends(t, v, func() { v.Put(slot, block('d')) })
			changes(t, v, slot, block('d'))
		}
		s.same(t, source{slot + 1: block('a'), slot - 1: nil})
	}
}

// TestFirstWanted: of several slots that aren't known the one that is come to first is told, be it the least or not.
func TestFirstWanted(t *testing.T) {
	slots := far()
	v := view.New(source{}.get)
	for range slots {
		wants(t, v, slots[0], func() {
			for _, slot := range slots {
				v.See(slot)
			}
		})
		slots = append(slots[1:], slots[0])
	}
}

// TestWantedBehindPut: a slot that was put isn't wanted; in the next run it is again.
func TestWantedBehindPut(t *testing.T) {
	v := view.New(source{}.get)
	ends(t, v, func() {
		v.Put(1, nil)
		sees(t, v, 1, nil)
	})
	wants(t, v, 1, func() { v.See(1) })
	wants(t, v, 1, func() {
		v.See(1)
		v.Put(1, nil)
	})
}

// deep: so many calls deep a slot is seen, and each call notes when it is left.
func deep(v *view.View, n, slot int, left *[]int) {
	defer func() { *left = append(*left, n) }()
	if n == 0 {
		v.See(slot)
		return
	}
	deep(v, n-1, slot, left)
}

// TestWantedDeep: a run ends from however deep in its calls; what they deferred is done.
func TestWantedDeep(t *testing.T) {
	v := view.New(source{1: nil}.get)
	for _, depth := range []int{0, 1, 2, 50} {
		var left, all []int
		for n := range depth + 1 {
			all = append(all, n)
		}
		wants(t, v, 2, func() { deep(v, depth, 2, &left) })
		if !slices.Equal(left, all) {
			t.Fatalf("P12.2: left: %v", left)
		}
		ends(t, v, func() { deep(v, depth, 1, &left) })
	}
}

// TestPutBehindWanted: what a deferred call puts while the run ends isn't a change.
func TestPutBehindWanted(t *testing.T) {
	v := view.New(source{}.get)
	wants(t, v, 1, func() {
		defer v.Put(2, block('a'))
		v.Put(3, block('b'))
		v.See(1)
	})
}

// TestWithin: a run within another one of the same view begins without changes, too, and ends on its own.
func TestWithin(t *testing.T) {
	s := source{1: block('s')}
	v := view.New(s.get)
	ends(t, v, func() {
		v.Put(1, block('a'))
		ends(t, v, func() {
			sees(t, v, 1, block('s'))
			v.Put(2, block('b'))
		})
		changes(t, v, 2, block('b'))
		wants(t, v, 3, func() {
			v.Put(4, block('c'))
			v.See(3)
		})
		sees(t, v, 1, block('s'))
		v.Put(5, block('d'))
	})
	changes(t, v, 5, block('d'))
	wants(t, v, 6, func() {
		v.Run(func() { v.See(7) })
		v.Put(1, block('e'))
		v.See(6)
	})
	wants(t, v, 6, func() {
		v.Run(func() {})
		v.See(6)
	})
}

// TestWithinAnother: a slot that one view wants ends its own run, and isn't taken for one that another view wants.
func TestWithinAnother(t *testing.T) {
	a, b := view.New(source{}.get), view.New(source{}.get)
	behind := false
	wants(t, a, 1, func() {
		a.Put(2, block('a'))
		b.Run(func() {
			b.Put(3, block('b'))
			a.See(1)
		})
		behind = true
	})
	if behind {
		t.Fatal("P12.2: the other view's run was ended alone")
	}
	ends(t, a, func() {
		wants(t, b, 4, func() { b.See(4) })
		a.Put(5, block('c'))
	})
	changes(t, a, 5, block('c'))
	ends(t, b, func() { b.Put(6, block('d')) })
	changes(t, b, 6, block('d'))
}
