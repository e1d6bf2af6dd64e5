package vault_test

import (
	"bytes"
	"math/rand"
	"testing"

	"oubliette/api"
	"oubliette/vault"
)

// TestMountNew: a new disk: one step, one touch of the anchor, none of the disk; behind it nothing is done.
func TestMountNew(t *testing.T) {
	for depth := 1; depth <= 4; depth++ {
		r := rigOn(t, depth, depth, keyed(t))
		if r.v.Ready() || r.v.Epoch() != 0 {
			t.Errorf("P9.2: depth %d: ready ahead of the mounting; epoch %d", depth, r.v.Epoch())
		}
		r.mount()
		if !r.v.Ready() || r.a.Touched() != 1 || r.d.Touched() != 0 || r.v.Epoch() != 1 {
			t.Errorf("P9.2: depth %d: %d and %d touches, epoch %d", depth, r.a.Touched(), r.d.Touched(), r.v.Epoch())
		}
		for range 3 {
			r.mount()
		}
		r.slots()
	}
}

// TestMountTrees: the anchor first, then the nodes that have a block, from the root down, a step and a read each.
func TestMountTrees(t *testing.T) {
	r := rand.New(rand.NewSource(9))
	for depth := 1; depth <= 4; depth++ {
		for round := range 12 {
			g := readyOn(t, depth, round%3, pads())
			for range 1 + r.Intn(6) {
				g.put(run(round), r.Intn(g.m.slots()))
			}
			g.commit()
			g.reopen()
			steps := 0
			for !g.m.ready {
				g.mount()
				steps++
			}
			nodes := 0
			for _, at := range places(depth) {
				if _, ok := g.m.recs[at]; ok {
					nodes++
				}
			}
			if steps != 1+nodes {
				t.Errorf("P9.2: depth %d: %d steps for %d nodes", depth, steps, nodes)
			}
			for range 3 { // nothing is done behind the last step
				g.mount()
			}
			g.fetchAll()
		}
	}
}

// TestMountWhole: a tree of all slots of every depth.
func TestMountWhole(t *testing.T) {
	for depth := 1; depth <= 4; depth++ {
		r := readyOn(t, depth, 0, keyed(t))
		r.putAll(depth)
		r.commit()
		r.reopen()
		r.mountAll()
		if want := need(depth) / 2; r.v.Free() != want || r.d.Touched() != want+1+len(places(depth)) {
			t.Errorf("P9.2: depth %d: %d free, %d touches", depth, r.v.Free(), r.d.Touched())
		}
		r.fetchAll()
	}
}

// TestMountAgain: a mounting that goes on while a commit, changes and what is known of an elder vault are there no more.
func TestMountAgain(t *testing.T) {
	r := readyOn(t, 2, 0, keyed(t))
	r.put(run(1), 1, 2)
	r.commit()
	for round := range 5 {
		r.put(run(10+round), 2, 3)
		if round > 1 {
			r.begin()
			r.push()
			r.put(run(20+round), 4)
		}
		r.reopen(true, true)
		for range round {
			r.mount()
		}
		r.reopen()
		r.mountAll()
		r.slots()
	}
	r.fetchAll()
	if r.v.Epoch() != 1+1+5*2-1 { // the first mounting, the commit, and each but the one that came to no step
		t.Errorf("P9.2: epoch %d", r.v.Epoch())
	}
}

// TestMountsApart: an epoch is one vault's alone, however many are mounting on one disk, and in whatever order their steps come.
func TestMountsApart(t *testing.T) {
	g := readyOn(t, 2, 0, keyed(t))
	g.put(run(1), 0, 9)
	g.commit()
	var vaults []*vault.Vault
	for range 4 {
		vaults = append(vaults, vaultOf(t, g.d, g.a, g.m.w, 2))
	}
	for range 4 { // the anchor, the root, two nodes
		for k, v := range vaults {
			if _, e := v.Mount(); e != api.OK || int(v.Epoch()) != 3+k {
				t.Fatalf("P9.8: Mount of vault %d: %v, epoch %d", k, e, v.Epoch())
			}
		}
	}
	for k, v := range vaults {
		if b, e := v.Peek(9); !v.Ready() || e != api.OK || !bytes.Equal(b, run(1)) {
			t.Errorf("P9.2: vault %d: %v, %x, %v", k, v.Ready(), b, e)
		}
	}
}
