package dir_test

import (
	"fmt"
	"strings"
	"testing"

	"oubliette/api"
	"oubliette/dir"
)

// count: how many leaves a list has, which are its own there and back.
func count(t *testing.T, l []api.Entry) int {
	t.Helper()
	leaves, e := dir.Leaves(l)
	if e != api.OK {
		t.Fatalf("P14.5: Leaves(%v): %v", l, e)
	}
	back, e := dir.Parse(leaves)
	if e != api.OK {
		t.Fatalf("P14.5: Parse of a list's leaves: %v", e)
	}
	sameList(t, "P14.5: Parse of a list's leaves", back, l)
	again, e := dir.Leaves(back)
	if e != api.OK || !sameBlocks(again, leaves) {
		t.Fatalf("P14.5: Leaves of what was read: %x, %v; not %x", again, e, leaves)
	}
	for k, b := range leaves {
		if len(b) != 256 || b[0] == 0 {
			t.Fatalf("P14.5: leaf %d: %x", k, b)
		}
	}
	return len(leaves)
}

// less: each entry of a list goes, alone: no leaf more, and one less at most.
func less(t *testing.T, l []api.Entry) {
	t.Helper()
	all := count(t, l)
	for _, e := range l {
		rest := dir.Without(l, e.Name)
		if len(rest) != len(l)-1 {
			t.Fatalf("P14.2: Without %q: %d of %d entries", e.Name, len(rest), len(l))
		}
		if n := count(t, rest); n > all || n < all-1 {
			t.Fatalf("P14.5: %d leaves without an entry of %d leaves", n, all)
		}
	}
}

// more: an entry comes: at most one leaf more, and none less.
func more(t *testing.T, l []api.Entry, e api.Entry) {
	t.Helper()
	all, then := count(t, l), count(t, dir.With(l, e))
	if then < all || then > all+1 {
		t.Fatalf("P14.5: %d leaves with an entry more than %d leaves", then, all)
	}
}

// TestOneByOne: lists by chance, an entry more, an entry less.
func TestOneByOne(t *testing.T) {
	r := newRand(5)
	for turn := range 400 {
		l := list(r, turn%33)
		less(t, l)
		for range 20 {
			e := entry(chance(r), r.Uint32()|1)
			if with := dir.With(l, e); len(with) == len(l)+1 && mayBe(with) {
				more(t, l, e)
			}
		}
	}
}

// TestWalks: lists that grow and shrink, step by step.
func TestWalks(t *testing.T) {
	r := newRand(55)
	for range 40 {
		var l []api.Entry
		for cookie := range uint32(300) {
			was := len(leavesOf(l))
			name := chance(r)
			switch grows := len(l) == 0 || len(l) < 32 && r.Intn(5) > 1; {
			case grows:
				l = dir.With(l, entry(name, cookie+1))
			default:
				l = dir.Without(l, l[r.Intn(len(l))].Name)
			}
			if n := count(t, l); n > was+1 || n < was-1 {
				t.Fatalf("P14.5: %d leaves behind one step from %d", n, was)
			}
		}
	}
}

// TestFullLeaves: lists of the greatest lengths: an entry at each place of leaves that are full, or nearly so.
func TestFullLeaves(t *testing.T) {
	for _, lengths := range [][]int{{32}, {1}, {1, 32}, {32, 1, 1}, {31, 32, 30}, {5, 5, 5, 32, 32, 32, 32}} {
		for size := range 32 {
			var l []api.Entry
			for k := range size {
				l = append(l, entry(padded(2*k+1, lengths[k%len(lengths)]), uint32(k+1)))
			}
			less(t, l)
			for k := range size + 1 {
				for _, length := range []int{1, 2, 16, 31, 32} {
					more(t, l, entry(padded(2*k, length), 1000))
				}
			}
		}
	}
}

// padded: a name of so many bytes, whose first one says where it stands.
func padded(place, length int) string {
	return string(rune('0'+place)) + strings.Repeat("x", length-1)
}

// TestFewLeaves: as few blocks as that takes: no way to lay the entries in order into leaves takes fewer.
func TestFewLeaves(t *testing.T) {
	r := newRand(56)
	for turn := range 2000 {
		l := list(r, turn%33)
		best := make([]int, len(l)+1) // of the entries from each one on
		for k := len(l) - 1; k >= 0; k-- {
			best[k] = len(l)
			for end, room := k, 255; end < len(l); end++ {
				if room -= len(bytesOf(l[end])); room < 0 {
					break
				}
				best[k] = min(best[k], 1+best[end+1])
			}
		}
		if n := count(t, l); n != best[0] {
			t.Fatal(fmt.Sprint("P14.5: ", n, " leaves, not ", best[0]))
		}
	}
}
