package view_test

import (
	"bytes"
	"math"
	"slices"
	"testing"

	"oubliette/api"
	"oubliette/view"
)

// TestExample: the chapter's own, run by run, on one view.
func TestExample(t *testing.T) {
	a, b := block('a'), block('b')
	v := view.New(source{1: a}.get)
	ends(t, v, func() {
		sees(t, v, 1, a)
		v.Put(1, b)
		sees(t, v, 1, b)
	})
	changes(t, v, 1, b)
	wants(t, v, 2, func() {
		v.Put(1, b)
		v.See(2)
	})
	ends(t, v, func() { v.Put(1, a) })
	changes(t, v, 1, a)
}

// TestNew: a view that was never run, or runs what neither sees nor puts, has no changes, whatever its source knows.
func TestNew(t *testing.T) {
	for _, s := range []source{nil, {0: nil}, {1: block('a')}, {-1: block('a'), 0: block('b'), 256: {}}} {
		v := view.New(s.get)
		if v == nil {
			t.Fatal("P12.1: no view")
		}
		changes(t, v)
		for range 2 {
			ends(t, v, func() {})
			changes(t, v)
		}
		ends(t, v, nil)
		changes(t, v)
	}
}

// TestNoSource: of a view over no source no slot is known, but what is put is seen.
func TestNoSource(t *testing.T) {
	v := view.New(nil)
	wants(t, v, 1, func() { v.See(1) })
	ends(t, v, func() {
		v.Put(1, block('a'))
		sees(t, v, 1, block('a'))
	})
	changes(t, v, 1, block('a'))
}

// TestSee: what the source knows, blocks and no bytes, at slots of all kinds; seeing isn't changing.
func TestSee(t *testing.T) {
	for _, slot := range far() {
		for _, b := range [][]byte{block('a'), block(0), {}, nil, {7}, bytes.Repeat([]byte("ab"), 700)} {
			v := view.New(source{slot: b}.get)
			ends(t, v, func() {
				sees(t, v, slot, b)
				sees(t, v, slot, b)
			})
			changes(t, v)
		}
	}
}

// TestSeeAsItIs: what the source holds is seen as it is when it is asked for, in one run and in the next.
func TestSeeAsItIs(t *testing.T) {
	s := source{1: block('a')}
	v := view.New(s.get)
	ends(t, v, func() {
		sees(t, v, 1, block('a'))
		s[1] = block('b')
		sees(t, v, 1, block('b'))
	})
	s[1] = nil
	ends(t, v, func() { sees(t, v, 1, nil) })
	delete(s, 1)
	wants(t, v, 1, func() { v.See(1) })
}

// TestNotKnownHasNoBytes: what a source tells of a slot that it doesn't know isn't what the slot holds.
func TestNotKnownHasNoBytes(t *testing.T) {
	v := view.New(func(int) ([]byte, bool) { return block('a'), false })
	wants(t, v, 1, func() { v.See(1) })
	if b := v.See(1); len(b) != 0 {
		t.Fatalf("P12.2: See: %x", b)
	}
}

// TestPut: what was put last is what is seen and told, whether the source knows the slot or not, and is it the same block or another one.
func TestPut(t *testing.T) {
	blocks := [][]byte{block('a'), block('b'), block(0), nil, {9}}
	for _, slot := range far() {
		for _, s := range []source{{}, {slot: block('a')}, {slot: nil}, {slot + 1: block('c'), slot - 1: block('d')}} {
			v := view.New(s.get)
			for _, first := range blocks {
				ends(t, v, func() {
					v.Put(slot, first)
					sees(t, v, slot, first)
				})
				changes(t, v, slot, first)
				for _, second := range blocks {
					ends(t, v, func() {
						v.Put(slot, first)
						sees(t, v, slot, first)
						v.Put(slot, second)
						sees(t, v, slot, second)
						sees(t, v, slot, second)
					})
					changes(t, v, slot, second)
				}
			}
		}
	}
}

// TestSeeAndPut: what is seen ahead of a put is the source's, and other slots stay as they are.
func TestSeeAndPut(t *testing.T) {
	s := source{1: block('a'), 2: block('b'), 3: nil}
	v := view.New(s.get)
	ends(t, v, func() {
		sees(t, v, 1, block('a'))
		v.Put(1, block('c'))
		sees(t, v, 2, block('b'))
		sees(t, v, 3, nil)
		v.Put(3, block('d'))
		sees(t, v, 1, block('c'))
		sees(t, v, 2, block('b'))
		sees(t, v, 3, block('d'))
	})
	changes(t, v, 1, block('c'), 3, block('d'))
	s.same(t, source{1: block('a'), 2: block('b'), 3: nil})
}

// TestChangesRise: in whatever order slots are put, Changes tells them by rising numbers, each once.
func TestChangesRise(t *testing.T) {
	falling := slices.Sorted(slices.Values(far()))
	slices.Reverse(falling)
	v := view.New(source{}.get)
	for n := range len(falling) + 1 {
		ends(t, v, func() {
			for k, slot := range falling[:n] {
				v.Put(slot, block(byte(k)))
			}
			for k, slot := range falling[:n/2] {
				v.Put(slot, block(byte(k+100)))
			}
		})
		var want []any
		for k := n - 1; k >= 0; k-- {
			c := byte(k)
			if k < n/2 {
				c += 100
			}
			want = append(want, falling[k], block(c))
		}
		changes(t, v, want...)
	}
	ends(t, v, func() {
		for slot := api.MaxSlots - 1; slot >= 0; slot-- {
			v.Put(slot, block(byte(slot)))
		}
	})
	var want []any
	for slot := range api.MaxSlots {
		want = append(want, slot, block(byte(slot)))
	}
	changes(t, v, want...)
	changes(t, v, want...)
}

// TestChangesWithin: Changes tells what was put so far.
func TestChangesWithin(t *testing.T) {
	v := view.New(source{1: block('a')}.get)
	ends(t, v, func() {
		changes(t, v)
		v.Put(2, block('b'))
		changes(t, v, 2, block('b'))
		v.See(1)
		v.Put(1, nil)
		changes(t, v, 1, []byte(nil), 2, block('b'))
	})
	changes(t, v, 1, []byte(nil), 2, block('b'))
}

// TestPutIsCopied: a block that is written over behind Put is as it was put; Put itself leaves it, and the room behind it.
func TestPutIsCopied(t *testing.T) {
	for _, n := range []int{0, 1, 10, api.BlockLen} {
		v := view.New(source{1: block('s')}.get)
		room := bytes.Repeat([]byte{'r'}, 2*api.BlockLen)
		b, want := room[:n], bytes.Repeat([]byte{'r'}, n)
		ends(t, v, func() {
			v.Put(1, b)
			if !bytes.Equal(room, bytes.Repeat([]byte{'r'}, 2*api.BlockLen)) {
				t.Fatalf("P12.2: Put changed what it was handed: %x", room)
			}
			scrub(room)
			sees(t, v, 1, want)
		})
		scrub(room)
		changes(t, v, 1, want)
	}
}

// TestSeenIsCopied: what See answered may be written over; what the view sees, its changes and the source stay as they are.
func TestSeenIsCopied(t *testing.T) {
	room := append(block('s'), block('r')...)
	s := source{1: room[:api.BlockLen], 2: block('t'), 3: room[:0], 4: nil}
	was := s.copied()
	v := view.New(s.get)
	ends(t, v, func() {
		v.Put(5, block('p'))
		v.Put(6, nil)
		for range 3 {
			for slot := 1; slot <= 6; slot++ {
				scrub(v.See(slot))
			}
			sees(t, v, 1, block('s'))
			sees(t, v, 2, block('t'))
			sees(t, v, 3, nil)
			sees(t, v, 4, nil)
			sees(t, v, 5, block('p'))
			sees(t, v, 6, nil)
		}
	})
	changes(t, v, 5, block('p'), 6, []byte(nil))
	s.same(t, was)
	if !bytes.Equal(room[api.BlockLen:], block('r')) {
		t.Fatalf("P12.2: behind what the source holds: %x", room)
	}
}

// TestSeenThenPut: what was seen of the source, changed and put is the change; what was seen of the change is no way to it.
func TestSeenThenPut(t *testing.T) {
	s := source{1: block('s')}
	v := view.New(s.get)
	ends(t, v, func() {
		b := v.See(1)
		b[0] = 'x'
		v.Put(1, b)
		b[1] = 'y'
		own := v.See(1)
		own[2] = 'z'
		sees(t, v, 1, append([]byte{'x'}, block('s')[1:]...))
	})
	changes(t, v, 1, append([]byte{'x'}, block('s')[1:]...))
	s.same(t, source{1: block('s')})
}

// TestChangesAreCopies: what Changes answered may be written over, list and blocks; no two of them share any memory.
func TestChangesAreCopies(t *testing.T) {
	s := source{1: block('s')}
	v := view.New(s.get)
	ends(t, v, func() {
		for slot := range 4 {
			v.Put(slot, block(byte(slot)))
		}
		v.Put(4, v.See(1))
		for _, x := range v.Changes() {
			scrub(x.Block)
		}
		for slot := range 4 {
			sees(t, v, slot, block(byte(slot)))
		}
	})
	want := []any{0, block(0), 1, block(1), 2, block(2), 3, block(3), 4, block(1)}
	for range 2 {
		first, second := v.Changes(), v.Changes()
		for k := range first {
			scrub(first[k].Block)
			if !bytes.Equal(second[k].Block, want[2*k+1].([]byte)) {
				t.Fatalf("P12.4: two answers share the block of %d", k)
			}
			scrub(second[k].Block)
			for _, other := range second[k+1:] {
				if !bytes.Equal(other.Block, want[2*other.Slot+1].([]byte)) {
					t.Fatalf("P12.4: the blocks of %d and %d share memory", k, other.Slot)
				}
			}
			first[k], second[k] = api.Put{Slot: 99}, api.Put{Slot: 98}
		}
		changes(t, v, want...)
	}
	s.same(t, source{1: block('s')})
}

// TestViewsApart: two views over one source have changes of their own.
func TestViewsApart(t *testing.T) {
	s := source{1: block('s')}
	a, b := view.New(s.get), view.New(s.get)
	ends(t, a, func() {
		a.Put(1, block('a'))
		ends(t, b, func() {
			sees(t, b, 1, block('s'))
			b.Put(1, block('b'))
			sees(t, a, 1, block('a'))
		})
		sees(t, a, 1, block('a'))
	})
	changes(t, a, 1, block('a'))
	changes(t, b, 1, block('b'))
	s.same(t, source{1: block('s')})
}

// TestOutside: where no run goes on nothing panics: a slot that isn't known has no bytes then, and what is put there is told until the next run.
func TestOutside(t *testing.T) {
	v := view.New(source{1: block('s')}.get)
	look := func() {
		t.Helper()
		sees(t, v, 1, block('s'))
		for _, slot := range []int{0, 2, -1, math.MaxInt, math.MinInt} {
			sees(t, v, slot, nil)
		}
		changes(t, v)
		v.Put(2, block('p'))
		sees(t, v, 2, block('p'))
		changes(t, v, 2, block('p'))
	}
	look()
	ends(t, v, func() {})
	look()
	wants(t, v, 3, func() { v.See(3) })
	look()
	recovered(func() { v.Run(func() { panic("own") }) })
	look()
	wants(t, v, 2, func() { v.See(2) })
}
