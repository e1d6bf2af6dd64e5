package vault_test

import (
	"math/rand"
	"testing"

	"oubliette/veil"
)

// keeps: which of so many unsynced writes a crash keeps: all choices of few ones; of more none, all, each one alone, all but one, and some by chance.
func keeps(n int) [][]bool {
	var out [][]bool
	if n <= 4 {
		for way := range 1 << n {
			keep := make([]bool, n)
			for k := range keep {
				keep[k] = way>>k&1 == 1
			}
			out = append(out, keep)
		}
		return out
	}
	chance := rand.New(rand.NewSource(int64(n)))
	for way := range 2*n + 6 {
		keep := make([]bool, n)
		for k := range keep {
			switch {
			case way < n:
				keep[k] = k == way
			case way < 2*n:
				keep[k] = k != way-n
			case way == 2*n:
				keep[k] = true
			case way > 2*n+1:
				keep[k] = chance.Intn(2) == 1
			}
		}
		out = append(out, keep)
	}
	return out
}

// script: what is done till a commit begins that is to be cut off.
type script struct {
	name  string
	depth int
	do    func(r *rig)
}

// scripts: first commits, and such that replace, empty and keep what was committed.
func scripts() []script {
	twice := func(slots ...int) func(r *rig) {
		return func(r *rig) {
			r.put(run(1), slots...)
			r.commit()
			r.put(run(2), slots[1:]...)
		}
	}
	return []script{
		{"the first slot", 1, func(r *rig) { r.put(run(1), 0) }},
		{"all slots", 1, func(r *rig) { r.putAll(1) }},
		{"all slots, again and again", 1, func(r *rig) {
			for round := range 3 {
				r.putAll(10 * round)
				r.commit()
			}
			r.putAll(40)
		}},
		{"all put empty", 1, func(r *rig) {
			r.putAll(1)
			r.commit()
			r.put(nil, 0, 1, 2, 3)
		}},
		{"the first of two nodes", 2, func(r *rig) { r.put(run(1), 3, 4) }},
		{"some of some", 2, twice(3, 4, 8, 9)},
		{"some put empty", 2, func(r *rig) {
			r.put(run(1), 3, 4, 8)
			r.commit()
			r.put(nil, 4, 8)
			r.put(run(2), 15)
		}},
		{"deep ones", 3, twice(0, 63)},
		{"the deepest ones", 4, twice(255, 0)},
		{"what was put while one went on", 2, func(r *rig) {
			r.put(run(1), 0, 7)
			r.begin()
			r.push()
			r.put(run(2), 0, 1)
			for !r.push() {
			}
		}},
	}
}

// ready: a script's rig, with its commit begun.
func (x script) ready(t *testing.T, w *veil.Veil) *rig {
	r := readyOn(t, x.depth, 0, w)
	x.do(r)
	r.begin()
	return r
}

// goesOn: a vault that was mounted behind a crash holds what it should, and has room for a commit of all, which is there then.
func (r *rig) goesOn(all bool) {
	r.t.Helper()
	r.fetchAll()
	if all {
		r.putAll(99)
	} else {
		r.put(run(98), 0)
	}
	r.commit()
	r.reopen()
	r.mountAll()
	r.fetchAll()
}

// TestCrashInACommit: ahead of and behind every step, whatever of the unsynced writes is kept.
func TestCrashInACommit(t *testing.T) {
	for _, x := range scripts() {
		for at, ended := 0, false; !ended; at++ {
			ways := 1
			for way := 0; way < ways; way++ {
				r := x.ready(t, pads())
				for range at {
					r.push()
				}
				ended = r.m.going == nil
				keep := keeps(r.d.Waiting())
				ways = len(keep)
				r.reopen(keep[way]...)
				r.mountAll()
				r.goesOn(x.depth < 3)
			}
		}
	}
}

// TestCrashInAMounting: behind a commit that was cut off, a mounting is cut off behind every step, twice; writes that the first one found waiting may be kept then.
func TestCrashInAMounting(t *testing.T) {
	for _, x := range scripts() {
		if x.depth > 2 {
			continue
		}
		for at, ended := 0, false; !ended; at++ {
			for mounted, up := 0, false; !up; mounted++ {
				ways := 1
				for way := 0; way < min(ways, 16); way++ {
					r := x.ready(t, pads())
					for range at {
						r.push()
					}
					ended = r.m.going == nil
					keep := keeps(r.d.Waiting())
					ways = len(keep)
					r.renew() // no crash yet: what waits is still there
					for range mounted {
						r.mount()
					}
					up = r.m.ready
					r.reopen(keep[way]...)
					for range mounted {
						r.mount()
					}
					r.reopen()
					r.mountAll()
					r.goesOn(true)
				}
			}
		}
	}
}

// TestCrashAgainAndAgain: commits that are cut off one behind the other, at every step: nothing is lost but they, no block is taken for ever, no nonce comes twice.
func TestCrashAgainAndAgain(t *testing.T) {
	for _, w := range []*veil.Veil{keyed(t), nil} {
		r := readyOn(t, 2, 0, w)
		r.putAll(1)
		r.commit()
		for round := range 60 {
			r.putAll(10 + round)
			if round%3 == 0 {
				r.put(nil, round%16, (round+5)%16)
			}
			r.begin()
			for range round % 23 {
				r.push()
			}
			keep := keeps(r.d.Waiting())
			r.reopen(keep[round%len(keep)]...)
			r.mountAll()
			r.fetchAll()
		}
	}
}
