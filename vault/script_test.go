package vault_test

import (
	"math/rand"
	"testing"

	"oubliette/veil"
)

// chance: something that is done by chance, held to the model.
func (r *rig) chance(c *rand.Rand) {
	r.t.Helper()
	slot := c.Intn(r.m.slots())
	if wrong := noSlots(r.m.depth); c.Intn(20) == 0 {
		slot = wrong[c.Intn(len(wrong))]
	}
	switch c.Intn(16) {
	case 0, 1, 2:
		r.put(run(c.Intn(1<<16)), slot)
	case 3:
		r.put([][]byte{nil, {}, zeros(), {1}, run(1)[:255]}[c.Intn(5)], slot)
	case 4:
		r.fetch(slot)
	case 5:
		r.slot(slot)
	case 6, 7:
		r.begin()
	case 8, 9, 10:
		r.push()
	case 11:
		for range c.Intn(2 * r.m.depth * 4) {
			r.push()
		}
	case 12:
		r.mount()
	case 13:
		if c.Intn(3) == 0 {
			keep := keeps(r.d.Waiting())
			r.reopen(keep[c.Intn(len(keep))]...)
		}
	case 14:
		if c.Intn(3) == 0 {
			r.renew()
		}
	case 15:
		if c.Intn(2) == 0 {
			r.mountAll()
		}
	}
}

// TestByChance: long scripts at every depth, with crashes, held to the model behind each step.
func TestByChance(t *testing.T) {
	for depth := 1; depth <= 4; depth++ {
		for seed, w := range []*veil.Veil{keyed(t), pads(), nil} {
			c := rand.New(rand.NewSource(int64(10*depth + seed)))
			r := rigOn(t, depth, seed, w)
			for step := range 3000 / depth {
				r.chance(c)
				if step%25 == 0 {
					r.slots()
				}
			}
			r.reopen()
			r.mountAll()
			r.fetchAll()
		}
	}
}

// TestEachScript: all scripts of a few steps at two slots of the least depth, behind a mounting.
func TestEachScript(t *testing.T) {
	all := []func(r *rig){
		func(r *rig) { r.put(run(1), 0) },
		func(r *rig) { r.put(run(2), 1) },
		func(r *rig) { r.put(nil, 0) },
		func(r *rig) { r.begin() },
		func(r *rig) { r.push() },
		func(r *rig) { r.commit() },
		func(r *rig) { r.reopen(true, false, true); r.mountAll() },
		func(r *rig) { r.reopen() },
		func(r *rig) { r.mount() },
		func(r *rig) { r.fetch(0) },
	}
	const length = 5
	scripts := 1
	for range length {
		scripts *= len(all)
	}
	for script := range scripts {
		r := readyOn(t, 1, 0, nil)
		for left, k := script, 0; k < length; k++ {
			all[left%len(all)](r)
			left /= len(all)
		}
		r.slots()
	}
}
