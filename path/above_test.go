package path_test

import (
	"math"
	"math/rand"
	"slices"
	"testing"

	"oubliette/api"
	"oubliette/path"
)

// TestAboveByHand: nodes written out, in lists of slots of several orders.
func TestAboveByHand(t *testing.T) {
	for _, x := range []struct {
		depth int
		slots []int
		want  []api.Spot
	}{
		{1, []int{0}, []api.Spot{{}}},
		{1, []int{3, 2, 1, 0}, []api.Spot{{}}},
		{2, []int{15}, []api.Spot{{Level: 1, Index: 3}, {}}},
		{2, []int{3, 4}, []api.Spot{{Level: 1, Index: 0}, {Level: 1, Index: 1}, {}}},
		{2, []int{12, 0}, []api.Spot{{Level: 1, Index: 0}, {Level: 1, Index: 3}, {}}},
		{3, []int{27}, []api.Spot{{Level: 2, Index: 6}, {Level: 1, Index: 1}, {}}},
		{3, []int{63, 0}, []api.Spot{{Level: 2, Index: 0}, {Level: 2, Index: 15}, {Level: 1, Index: 0}, {Level: 1, Index: 3}, {}}},
		{3, []int{16, 15}, []api.Spot{{Level: 2, Index: 3}, {Level: 2, Index: 4}, {Level: 1, Index: 0}, {Level: 1, Index: 1}, {}}},
		{4, []int{228}, []api.Spot{{Level: 3, Index: 57}, {Level: 2, Index: 14}, {Level: 1, Index: 3}, {}}},
		{4, []int{64, 63}, []api.Spot{
			{Level: 3, Index: 15}, {Level: 3, Index: 16}, {Level: 2, Index: 3}, {Level: 2, Index: 4}, {Level: 1, Index: 0}, {Level: 1, Index: 1}, {},
		}},
		{4, []int{66, 65, 70, 66}, []api.Spot{{Level: 3, Index: 16}, {Level: 3, Index: 17}, {Level: 2, Index: 4}, {Level: 1, Index: 1}, {}}},
	} {
		told(t, "P7.3", x.depth, x.slots, x.want)
	}
}

// TestAboveNone: without a slot there are no nodes, not even the root.
func TestAboveNone(t *testing.T) {
	for _, depth := range depths() {
		told(t, "P7.3", depth, nil, nil)
		told(t, "P7.3", depth, []int{}, nil)
		told(t, "P7.3", depth, upTo(0, 9)[:0], nil)
	}
}

// TestAboveOne: one node of each level, from the last one to the root, and the slot beneath each of them, however often it is named.
func TestAboveOne(t *testing.T) {
	for _, depth := range depths() {
		for slot := range slotsOf(depth) {
			got := path.Above(depth, []int{slot})
			if len(got) != depth || got[depth-1] != (api.Spot{}) {
				t.Fatalf("P7.5: Above(%d, %d): %v", depth, slot, got)
			}
			for i, s := range got {
				if s.Level != depth-1-i || !slices.Contains(reach(depth, s), slot) {
					t.Errorf("P7.5: Above(%d, %d): %v", depth, slot, got)
				}
			}
			for _, times := range []int{2, 3, 9, 300} {
				told(t, "P7.3", depth, slices.Repeat([]int{slot}, times), got)
			}
		}
	}
}

// TestAboveFollowsTheWay: the nodes above a slot are those that its way leads through.
func TestAboveFollowsTheWay(t *testing.T) {
	for _, depth := range depths() {
		for slot := range slotsOf(depth) {
			var want []api.Spot
			at := api.Spot{}
			for _, k := range path.Way(depth, slot) {
				want = append([]api.Spot{at}, want...)
				at = beneath(at, k)
			}
			told(t, "P7.5", depth, []int{slot}, want)
		}
	}
}

// TestAboveTwo: each two slots, the same one twice too, in both orders.
func TestAboveTwo(t *testing.T) {
	for _, depth := range depths() {
		c := newCovers(depth)
		for a := range slotsOf(depth) {
			for b := a; b < slotsOf(depth); b++ {
				want := c.above([]int{a, b})
				told(t, "P7.3", depth, []int{a, b}, want)
				told(t, "P7.3", depth, []int{b, a}, want)
				told(t, "P7.3", depth, []int{b, a, b, b, a}, want)
			}
		}
	}
}

// TestAboveEachChoice: each choice of the slots of the lesser trees.
func TestAboveEachChoice(t *testing.T) {
	for _, depth := range []int{1, 2} {
		c := newCovers(depth)
		for choice := range 1 << slotsOf(depth) {
			var slots []int
			for slot := range slotsOf(depth) {
				if choice>>slot&1 == 1 {
					slots = append(slots, slot)
				}
			}
			want := c.above(slots)
			told(t, "P7.3", depth, slots, want)
			told(t, "P7.3", depth, falling(slots), want)
		}
	}
}

// TestAboveAll: all slots, in any order, lead to all nodes.
func TestAboveAll(t *testing.T) {
	r := rand.New(rand.NewSource(7))
	for _, depth := range depths() {
		want := newCovers(depth).spots
		all := upTo(0, slotsOf(depth))
		told(t, "P7.3", depth, all, want)
		told(t, "P7.3", depth, falling(all), want)
		told(t, "P7.3", depth, append(falling(all), all...), want)
		for range 20 {
			told(t, "P7.3", depth, shuffled(r, all), want)
		}
		if len(want) != path.Nodes(depth) {
			t.Errorf("P7.3: depth %d: %d nodes above all slots, %d in all", depth, len(want), path.Nodes(depth))
		}
	}
}

// TestAboveBeneathOneNode: slots beneath one node have in common what is above it, whichever node it is.
func TestAboveBeneathOneNode(t *testing.T) {
	r := rand.New(rand.NewSource(71))
	for _, depth := range depths() {
		c := newCovers(depth)
		for i, s := range c.spots {
			beneath := c.slots[i]
			want := c.above(beneath)
			told(t, "P7.3", depth, beneath, want)
			told(t, "P7.3", depth, falling(beneath), want)
			told(t, "P7.3", depth, shuffled(r, beneath), want)
			if n := len(want) - (nodesOf(depth-s.Level) - 1); n != s.Level+1 {
				t.Errorf("P7.3: depth %d: %d nodes from %v up", depth, n, s)
			}
		}
	}
}

// TestAboveOnlyTheRoot: slots one of each of the root's records have the root alone in common.
func TestAboveOnlyTheRoot(t *testing.T) {
	for _, depth := range depths() {
		c, quarter := newCovers(depth), slotsOf(depth)/4
		for off := range quarter {
			slots := []int{3*quarter + off, quarter - 1 - off, 2*quarter + off, quarter + off/2}
			want := c.above(slots)
			told(t, "P7.3", depth, slots, want)
			if len(want) != 4*(depth-1)+1 {
				t.Errorf("P7.3: Above(%d, %v): %v", depth, slots, want)
			}
		}
	}
}

// TestAboveByChance: lists by chance, with slots that come twice and such as there aren't.
func TestAboveByChance(t *testing.T) {
	r := rand.New(rand.NewSource(72))
	for _, depth := range depths() {
		c, wrong := newCovers(depth), badSlots(depth)
		for range 600 {
			var slots []int
			for range r.Intn(40) {
				slots = append(slots, r.Intn(slotsOf(depth)))
				if r.Intn(3) == 0 {
					slots = append(slots, slots[r.Intn(len(slots))])
				}
				if r.Intn(4) == 0 {
					slots = append(slots, wrong[r.Intn(len(wrong))])
				}
			}
			slots = shuffled(r, slots)
			told(t, "P7.3", depth, slots, c.above(slots))
		}
	}
}

// TestAboveSlotsThatThereAreNot: alone they lead to no node; among others they don't count, wherever they stand.
func TestAboveSlotsThatThereAreNot(t *testing.T) {
	for _, depth := range depths() {
		c, wrong := newCovers(depth), badSlots(depth)
		told(t, "P7.3", depth, wrong, nil)
		for _, x := range wrong {
			told(t, "P7.3", depth, []int{x}, nil)
			told(t, "P7.3", depth, []int{x, x, x}, nil)
			for _, slot := range []int{0, 1, 3, slotsOf(depth) / 2, slotsOf(depth) - 1} {
				want := c.above([]int{slot})
				told(t, "P7.3", depth, []int{x, slot}, want)
				told(t, "P7.3", depth, []int{slot, x}, want)
				told(t, "P7.3", depth, []int{x, slot, x, slot, x}, want)
			}
			told(t, "P7.3", depth, append([]int{x}, upTo(0, slotsOf(depth))...), c.spots)
			told(t, "P7.3", depth, append(upTo(0, slotsOf(depth)), x), c.spots)
		}
	}
	told(t, "P7.3", 4, []int{math.MinInt, 256, 255, -1, math.MaxInt}, []api.Spot{{Level: 3, Index: 63}, {Level: 2, Index: 15}, {Level: 1, Index: 3}, {}})
}

// TestAboveArguments: what is handed in stays, its spare room too, and is written over without harm.
func TestAboveArguments(t *testing.T) {
	for _, depth := range depths() {
		c, last := newCovers(depth), slotsOf(depth)-1
		room := []int{last, 0, last, 2, -7, 1, 0, last + 1, 99, 98, 97, 96}
		was := slices.Clone(room)
		for n := range len(room) {
			want := c.above(was[:n])
			told(t, "P7.3", depth, room[:n], want)
			if !slices.Equal(room, was) {
				t.Fatalf("P7.3: Above(%d, %v) changed what was handed in: %v", depth, was[:n], room)
			}
			handed := slices.Clone(room[:n])
			got := path.Above(depth, handed)
			for i := range handed {
				handed[i] = 3 - i
			}
			if !slices.Equal(got, want) {
				t.Errorf("P7.3: Above(%d, %v) changed with what was handed in: %v", depth, was[:n], got)
			}
		}
	}
}

// TestAboveWrittenOver: what was told, written over and added to, is told again as it was.
func TestAboveWrittenOver(t *testing.T) {
	for _, depth := range depths() {
		slots := []int{slotsOf(depth) - 1, 1, 0, slotsOf(depth) / 2}
		want := newCovers(depth).above(slots)
		got, other := path.Above(depth, slots), path.Above(depth, slots)
		for i := range got {
			got[i] = api.Spot{Level: 9, Index: -9}
		}
		_ = append(got[:0], api.Spot{Level: 8}, api.Spot{Level: 8})
		if !slices.Equal(other, want) {
			t.Errorf("P7.3: two answers share memory: %v, not %v", other, want)
		}
		told(t, "P7.3", depth, slots, want)
	}
}
