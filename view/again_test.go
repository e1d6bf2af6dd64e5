package view_test

import (
	"bytes"
	"encoding/binary"
	"fmt"
	"hash/fnv"
	"maps"
	"math/rand"
	"slices"
	"testing"

	"oubliette/view"
)

// slotsOf: a walk's slots; some are below 0 or far away.
func slotsOf(n int) []int {
	out := far()[:min(n, len(far()))]
	for slot := 1000; len(out) < n; slot++ {
		out = append(out, slot)
	}
	return out
}

// walk is a function of so many steps on so many slots, where what it has seen says where it goes on and what it puts.
type walk struct {
	seed  int64
	steps int
	slots int
	puts  int // of ten steps
}

// on: the walk's function on a view; each block that it sees is told.
func (w walk) on(v *view.View, told func(b []byte)) func() {
	return func() {
		slots, trail := slotsOf(w.slots), fnv.New64a()
		fmt.Fprint(trail, w.seed)
		for range w.steps {
			sum := trail.Sum64()
			slot := slots[sum%uint64(len(slots))]
			if int(sum>>20%10) < w.puts {
				v.Put(slot, binary.LittleEndian.AppendUint64(nil, sum)[:sum>>40%9])
				trail.Write([]byte{1})
				continue
			}
			b := v.See(slot)
			told(bytes.Clone(b))
			trail.Write(append([]byte{2}, b...))
			scrub(b)
		}
	}
}

// ran: what comes of the walk over a source.
func (w walk) ran(v *view.View) did {
	var d did
	d.slot, d.ok = v.Run(w.on(v, func(b []byte) { d.seen = append(d.seen, b) }))
	d.changes = v.Changes()
	return d
}

// whole: a source that knows all the walk's slots, and others, whose blocks hang on the seed.
func (w walk) whole() source {
	r := rand.New(rand.NewSource(w.seed))
	s := source{}
	for _, slot := range append(slotsOf(w.slots), 5000, 5001, -5000) {
		s[slot] = make([]byte, r.Intn(20))
		r.Read(s[slot])
	}
	return s
}

// again: the walk is run again and again over what is known, each time with the slot that it wanted known; what comes of the last run, and what was wanted.
func (w walk) again(t *testing.T, known, whole source, v func(s source) *view.View) (did, []int) {
	t.Helper()
	want := w.ran(view.New(whole.get))
	var wanted []int
	for {
		d := w.ran(v(known))
		if len(d.seen) > len(want.seen) || !slices.EqualFunc(d.seen, want.seen[:len(d.seen)], bytes.Equal) {
			t.Fatalf("P12.5: %+v: behind %v other blocks are seen", w, wanted)
		}
		if d.ok {
			return d, wanted
		}
		if _, ok := known[d.slot]; ok || len(d.changes) != 0 {
			t.Fatalf("P12.5: %+v: behind %v: %d is wanted; changes: %v", w, wanted, d.slot, d.changes)
		}
		wanted = append(wanted, d.slot)
		known[d.slot] = whole[d.slot]
	}
}

// walks: by chance, from ones without a step to ones of hundreds.
func walks(n int) []walk {
	r := rand.New(rand.NewSource(12))
	out := []walk{{1, 0, 1, 0}, {2, 1, 1, 0}, {3, 1, 1, 10}, {4, 400, 40, 0}, {5, 400, 40, 10}, {6, 400, 256, 3}}
	for range n {
		out = append(out, walk{r.Int63(), r.Intn(120), 1 + r.Intn(60), r.Intn(11)})
	}
	return out
}

// TestAgain: it comes to its end as if all had been known from the beginning, whether one view is run or a new one each time.
func TestAgain(t *testing.T) {
	for _, w := range walks(400) {
		whole := w.whole()
		was, want := whole.copied(), w.ran(view.New(whole.get))
		if !want.ok {
			t.Fatalf("P12.3: %+v: Run: %v", w, want.slot)
		}
		known := source{}
		one := view.New(known.get)
		d, wanted := w.again(t, known, whole, func(source) *view.View { return one })
		d.is(t, w, want)
		fresh, same := w.again(t, source{}, whole, func(s source) *view.View { return view.New(s.get) })
		fresh.is(t, w, want)
		if !slices.Equal(wanted, same) {
			t.Fatalf("P12.5: %+v: wanted: %v, and %v", w, wanted, same)
		}
		whole.same(t, was)
	}
}

// TestAgainFromSome: likewise where some slots, or some that are never asked for, are known at first; no slot but one that it comes to is wanted.
func TestAgainFromSome(t *testing.T) {
	r := rand.New(rand.NewSource(125))
	for _, w := range walks(200) {
		whole := w.whole()
		asked := map[int]int{}
		want := w.ran(view.New(func(slot int) ([]byte, bool) {
			asked[slot]++
			return whole.get(slot)
		}))
		for _, often := range []int{0, 3, 7, 10} {
			known, needs := source{}, maps.Clone(asked)
			for slot, b := range whole {
				if _, ok := asked[slot]; !ok || r.Intn(10) < often {
					known[slot] = b
					delete(needs, slot)
				}
			}
			d, wanted := w.again(t, known, whole, func(s source) *view.View { return view.New(s.get) })
			d.is(t, w, want)
			slices.Sort(wanted)
			if !slices.Equal(wanted, slices.Sorted(maps.Keys(needs))) {
				t.Fatalf("P12.5: %+v: wanted: %v, not %v", w, wanted, needs)
			}
		}
	}
}

// TestUnasked: what the source holds where it isn't asked is of no matter, and it isn't asked for what was put.
func TestUnasked(t *testing.T) {
	v := view.New(func(slot int) ([]byte, bool) {
		if slot != 1 {
			t.Errorf("P12.5: asked for %d", slot)
		}
		return block('s'), true
	})
	ends(t, v, func() {
		v.Put(2, block('a'))
		sees(t, v, 2, block('a'))
		sees(t, v, 1, block('s'))
		v.Put(3, block('b'))
	})
	changes(t, v, 2, block('a'), 3, block('b'))
}
