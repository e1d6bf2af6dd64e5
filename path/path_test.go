package path_test

import (
	"slices"
	"testing"

	"oubliette/api"
	"oubliette/path"
)

func TestExamples(t *testing.T) {
	if s, n := path.Slots(2), path.Nodes(2); s != 16 || n != 5 {
		t.Errorf("P7.1: depth 2: %d slots, %d nodes", s, n)
	}
	if w := path.Way(2, 6); !slices.Equal(w, []int{1, 2}) {
		t.Errorf("P7.2: Way(2, 6): %v", w)
	}
	told(t, "P7.3", 2, []int{6, 7, 0}, []api.Spot{{Level: 1, Index: 0}, {Level: 1, Index: 1}, {}})
}

func TestHowMany(t *testing.T) {
	for _, depth := range depths() {
		if n := path.Slots(depth); n != slotsOf(depth) {
			t.Errorf("P7.1: Slots(%d): %d, not %d", depth, n, slotsOf(depth))
		}
		if n := path.Nodes(depth); n != nodesOf(depth) {
			t.Errorf("P7.1: Nodes(%d): %d, not %d", depth, n, nodesOf(depth))
		}
	}
	if path.Slots(api.MaxDepth) != api.MaxSlots {
		t.Errorf("P7.1: Slots(%d): %d, not MaxSlots", api.MaxDepth, path.Slots(api.MaxDepth))
	}
}

// TestDepthsThatMayNotBe: no slots, no nodes, and nothing told, whatever slot is asked for.
func TestDepthsThatMayNotBe(t *testing.T) {
	for _, depth := range badDepths() {
		if n := path.Slots(depth); n != 0 {
			t.Errorf("P7.1: Slots(%d): %d", depth, n)
		}
		if n := path.Nodes(depth); n != 0 {
			t.Errorf("P7.1: Nodes(%d): %d", depth, n)
		}
		for _, slot := range append(badSlots(4), 0, 1, 3, 4, 15, 16, 63, 64, 255) {
			if w := path.Way(depth, slot); len(w) != 0 {
				t.Errorf("P7.2: Way(%d, %d): %v", depth, slot, w)
			}
			told(t, "P7.3", depth, []int{slot}, nil)
		}
		told(t, "P7.3", depth, nil, nil)
		told(t, "P7.3", depth, upTo(0, 256), nil)
		if all := path.All(depth); len(all) != 0 {
			t.Errorf("P7.4: All(%d): %v", depth, all)
		}
	}
}

// TestWaysByHand: the first slot, the last one, and those beside a place where another node begins.
func TestWaysByHand(t *testing.T) {
	for _, x := range []struct {
		depth, slot int
		want        []int
	}{
		{1, 0, []int{0}}, {1, 1, []int{1}}, {1, 2, []int{2}}, {1, 3, []int{3}},
		{2, 0, []int{0, 0}}, {2, 1, []int{0, 1}}, {2, 3, []int{0, 3}}, {2, 4, []int{1, 0}}, {2, 7, []int{1, 3}}, {2, 8, []int{2, 0}},
		{2, 11, []int{2, 3}}, {2, 12, []int{3, 0}}, {2, 15, []int{3, 3}},
		{3, 0, []int{0, 0, 0}}, {3, 3, []int{0, 0, 3}}, {3, 4, []int{0, 1, 0}}, {3, 15, []int{0, 3, 3}}, {3, 16, []int{1, 0, 0}},
		{3, 27, []int{1, 2, 3}}, {3, 31, []int{1, 3, 3}}, {3, 32, []int{2, 0, 0}}, {3, 47, []int{2, 3, 3}}, {3, 48, []int{3, 0, 0}}, {3, 63, []int{3, 3, 3}},
		{4, 0, []int{0, 0, 0, 0}}, {4, 3, []int{0, 0, 0, 3}}, {4, 4, []int{0, 0, 1, 0}}, {4, 15, []int{0, 0, 3, 3}}, {4, 16, []int{0, 1, 0, 0}},
		{4, 27, []int{0, 1, 2, 3}}, {4, 63, []int{0, 3, 3, 3}}, {4, 64, []int{1, 0, 0, 0}}, {4, 127, []int{1, 3, 3, 3}}, {4, 128, []int{2, 0, 0, 0}},
		{4, 191, []int{2, 3, 3, 3}}, {4, 192, []int{3, 0, 0, 0}}, {4, 228, []int{3, 2, 1, 0}}, {4, 255, []int{3, 3, 3, 3}},
	} {
		if w := path.Way(x.depth, x.slot); !slices.Equal(w, x.want) {
			t.Errorf("P7.2: Way(%d, %d): %v, not %v", x.depth, x.slot, w, x.want)
		}
	}
}

// TestEachWay: as many numbers as the tree is deep, each from 0 to 3, leading to the slot; no two alike.
func TestEachWay(t *testing.T) {
	for _, depth := range depths() {
		met := map[[4]int]int{}
		for slot := range slotsOf(depth) {
			w := path.Way(depth, slot)
			if len(w) != depth {
				t.Fatalf("P7.2: Way(%d, %d): %v", depth, slot, w)
			}
			at, key := api.Spot{}, [4]int{}
			for level, k := range w {
				if k < 0 || k > 3 {
					t.Errorf("P7.2: Way(%d, %d): %v", depth, slot, w)
				}
				at, key[level] = beneath(at, k), k
			}
			if at != (api.Spot{Level: depth, Index: slot}) {
				t.Errorf("P7.5: Way(%d, %d): %v leads to %v", depth, slot, w, at)
			}
			if other, ok := met[key]; ok {
				t.Errorf("P7.5: slots %d and %d have one way: %v", other, slot, w)
			}
			met[key] = slot
		}
		if len(met) != slotsOf(depth) {
			t.Errorf("P7.5: depth %d: %d ways", depth, len(met))
		}
	}
}

// TestSlotsThatThereAreNot: they have no way.
func TestSlotsThatThereAreNot(t *testing.T) {
	for _, depth := range depths() {
		for _, slot := range append(badSlots(depth), upTo(slotsOf(depth), 1100)...) {
			if w := path.Way(depth, slot); len(w) != 0 {
				t.Errorf("P7.2: Way(%d, %d): %v", depth, slot, w)
			}
		}
		for slot := -1100; slot < 0; slot++ {
			if w := path.Way(depth, slot); len(w) != 0 {
				t.Errorf("P7.2: Way(%d, %d): %v", depth, slot, w)
			}
		}
	}
}

func TestAllByHand(t *testing.T) {
	if all := path.All(1); !slices.Equal(all, []api.Spot{{}}) {
		t.Errorf("P7.4: All(1): %v", all)
	}
	want := []api.Spot{{}, {Level: 1, Index: 0}, {Level: 1, Index: 1}, {Level: 1, Index: 2}, {Level: 1, Index: 3}}
	if all := path.All(2); !slices.Equal(all, want) {
		t.Errorf("P7.4: All(2): %v", all)
	}
}

// TestAllNodes: those of the tree, each once and in order, as many as Nodes says.
func TestAllNodes(t *testing.T) {
	for _, depth := range depths() {
		all := path.All(depth)
		if !slices.Equal(all, tree(depth)) {
			t.Errorf("P7.4: All(%d): %v, not %v", depth, all, tree(depth))
		}
		if len(all) != path.Nodes(depth) || len(all) != nodesOf(depth) {
			t.Errorf("P7.4: All(%d): %d nodes, not %d", depth, len(all), nodesOf(depth))
		}
		for i := 1; i < len(all); i++ {
			was, is := all[i-1], all[i]
			if is.Level < was.Level || is.Level == was.Level && is.Index <= was.Index {
				t.Errorf("P7.4: All(%d): %v behind %v", depth, is, was)
			}
		}
	}
}

// TestWrittenOver: what was told, written over and added to, is told again as it was.
func TestWrittenOver(t *testing.T) {
	for _, depth := range depths() {
		for slot := range slotsOf(depth) {
			w, other := path.Way(depth, slot), path.Way(depth, slot)
			want := slices.Clone(w)
			for i := range w {
				w[i] = -9
			}
			_ = append(w[:0], 7, 7, 7, 7, 7)
			if again := path.Way(depth, slot); !slices.Equal(other, want) || !slices.Equal(again, want) {
				t.Errorf("P7.2: Way(%d, %d) again: %v, %v; not %v", depth, slot, other, again, want)
			}
		}
		all, other := path.All(depth), path.All(depth)
		for i := range all {
			all[i] = api.Spot{Level: 9, Index: 9}
		}
		_ = append(all[:0], api.Spot{Level: 8}, api.Spot{Level: 8})
		if again := path.All(depth); !slices.Equal(other, tree(depth)) || !slices.Equal(again, tree(depth)) {
			t.Errorf("P7.4: All(%d) again: %v, %v", depth, other, again)
		}
	}
}
