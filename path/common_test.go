package path_test

import (
	"math"
	"math/rand"
	"slices"
	"testing"

	"oubliette/api"
	"oubliette/path"
)

// depths: those that may be.
func depths() []int { return []int{1, 2, 3, 4} }

// badDepths: some that may not be.
func badDepths() []int {
	return []int{0, 5, 6, 8, 16, 31, 32, 64, 1 << 32, 1<<32 + 1, 1<<32 + 4, -1, -2, -4, -1 << 32, math.MinInt32, math.MaxInt32, math.MinInt, math.MinInt + 1, math.MaxInt}
}

// slotsOf and nodesOf: how many there are, by hand.
func slotsOf(depth int) int { return [5]int{0, 4, 16, 64, 256}[depth] }
func nodesOf(depth int) int { return [5]int{0, 1, 5, 21, 85}[depth] }

// badSlots: some that a tree of this depth hasn't.
func badSlots(depth int) []int {
	n := slotsOf(depth)
	return []int{
		-1, -2, -3, -4, -5, -n, -n - 1, n, n + 1, n + 3, n + 4, 2 * n, 4 * n, 255 * 256, 1 << 16, 1 << 32, 1<<32 + 1,
		-1 << 32, math.MinInt32, math.MaxInt32, math.MinInt, math.MinInt + 1, math.MaxInt, math.MaxInt - 1,
	}
}

// beneath: where a node's record leads, by the chapter's words; of a node of the last level that is a slot.
func beneath(s api.Spot, k int) api.Spot {
	return api.Spot{Level: s.Level + 1, Index: 4*s.Index + k}
}

// reach: the slots beneath a node, by going down all of its records.
func reach(depth int, s api.Spot) []int {
	if s.Level == depth {
		return []int{s.Index}
	}
	var out []int
	for k := range 4 {
		out = append(out, reach(depth, beneath(s, k))...)
	}
	return out
}

// tree: all nodes, the root first, level by level, by rising index, found by going down from the root.
func tree(depth int) []api.Spot {
	level := []api.Spot{{}}
	var out []api.Spot
	for range depth {
		out = append(out, level...)
		var next []api.Spot
		for _, s := range level {
			for k := range 4 {
				next = append(next, beneath(s, k))
			}
		}
		level = next
	}
	return out
}

// covers: for each node of a tree the slots beneath it.
type covers struct {
	spots []api.Spot // in the order of Above
	slots [][]int
}

func newCovers(depth int) covers {
	var c covers
	for level := depth - 1; level >= 0; level-- {
		for _, s := range tree(depth) {
			if s.Level == level {
				c.spots = append(c.spots, s)
				c.slots = append(c.slots, reach(depth, s))
			}
		}
	}
	return c
}

// above: the nodes beneath which one of the slots lies: each node is asked, so that none stands there twice.
func (c covers) above(slots []int) []api.Spot {
	asked := map[int]bool{}
	for _, slot := range slots {
		asked[slot] = true
	}
	var out []api.Spot
	for i, s := range c.spots {
		if slices.ContainsFunc(c.slots[i], func(slot int) bool { return asked[slot] }) {
			out = append(out, s)
		}
	}
	return out
}

// told: the nodes above slots are these; the first fault ends a test, for many lists are asked.
func told(t *testing.T, promise string, depth int, slots []int, want []api.Spot) {
	t.Helper()
	if got := path.Above(depth, slots); !slices.Equal(got, want) {
		t.Fatalf("%s: Above(%d, %v): %v, not %v", promise, depth, slots, got, want)
	}
}

// upTo: the numbers from one on up to another one, which isn't among them.
func upTo(from, to int) []int {
	var out []int
	for i := from; i < to; i++ {
		out = append(out, i)
	}
	return out
}

// shuffled: a copy in another order.
func shuffled(r *rand.Rand, list []int) []int {
	out := slices.Clone(list)
	r.Shuffle(len(out), func(i, j int) { out[i], out[j] = out[j], out[i] })
	return out
}

// falling: a copy from the last one on.
func falling(list []int) []int {
	out := slices.Clone(list)
	slices.Reverse(out)
	return out
}
