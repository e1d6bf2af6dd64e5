package perm_test

import (
	"math"
	"testing"

	"oubliette/api"
	"oubliette/perm"
)

// less: that somebody may for each part of what he may for.
func less(t *testing.T, n api.Inode, uid, gid uint32) {
	t.Helper()
	for more := range 8 {
		if !perm.May(n, uid, gid, more) {
			continue
		}
		for want := range 8 {
			if among(want, more) && !perm.May(n, uid, gid, want) {
				t.Fatalf("P15.4: %+v: user %d in group %d may for %d, but not for %d", n, uid, gid, more, want)
			}
		}
	}
}

func TestWhoWantsLessMay(t *testing.T) {
	for mode := range 0o1000 {
		for _, uid := range []uint32{0, 5, 6, greatest} {
			for _, gid := range []uint32{0, 7, 8, greatest} {
				less(t, owned(mode, 5, 7), uid, gid)
			}
		}
	}
	r := newRand(154)
	for range 5000 {
		n := chance(r)
		if r.Intn(2) == 0 {
			n.Mode = int(r.Uint64())
		}
		less(t, n, somebody(r, n.Uid), somebody(r, n.Gid))
	}
}

// What is wanted one by one is wanted together.
func TestWhoMayForEachMayForAll(t *testing.T) {
	r := newRand(1541)
	for range 5000 {
		n := chance(r)
		uid, gid := somebody(r, n.Uid), somebody(r, n.Gid)
		for one := range 8 {
			for two := range 8 {
				each := perm.May(n, uid, gid, one) && perm.May(n, uid, gid, two)
				if perm.May(n, uid, gid, one|two) != each {
					t.Fatalf("P15.4: %+v: user %d in group %d: %d and %d", n, uid, gid, one, two)
				}
			}
		}
	}
}

func TestUserZeroMayAll(t *testing.T) {
	wants := []int{0, 1, 2, 3, 4, 5, 6, 7, 8, 15, -1, -8, math.MaxInt, math.MinInt}
	for mode := range 0o1000 {
		for _, owner := range []uint32{0, 5, greatest} {
			for _, group := range []uint32{0, 7, greatest} {
				for _, gid := range []uint32{0, 7, 8, greatest} {
					for _, want := range wants {
						if !perm.May(owned(mode, owner, group), 0, gid, want) {
							t.Fatalf("P15.4: Mode %s, Uid %d, Gid %d: user 0 in group %d may not for %d", digits(mode), owner, group, gid, want)
						}
					}
				}
			}
		}
	}
	r := newRand(1542)
	for range 20000 {
		n := chance(r)
		n.Mode = int(r.Uint64())
		if want := int(r.Uint64()); !perm.May(n, 0, somebody(r, n.Gid), want) {
			t.Fatalf("P15.4: %+v: user 0 may not for %d", n, want)
		}
	}
}

// What an open wants, somebody may, if the bits that its flags speak of are among his.
func TestOpens(t *testing.T) {
	for mode := range 0o1000 {
		n := owned(mode, 5, 7)
		for _, uid := range []uint32{0, 5, 6} {
			for _, gid := range []uint32{7, 8} {
				bits := bitsOf(n, uid, gid)
				for flags := range wanted() {
					want, _ := perm.Wants(flags)
					reads, writes := flags%512 != 1, flags != 0
					told := (!reads || has(bits, 4)) && (!writes || has(bits, 2))
					if got := perm.May(n, uid, gid, want); got != told {
						t.Fatalf("P15.3: Mode %s: user %d in group %d opens with %d: %v", digits(mode), uid, gid, flags, got)
					}
				}
			}
		}
	}
}

// The same question has the same answer, whatever is asked between.
func TestAskedAgain(t *testing.T) {
	r := newRand(1543)
	for range 5000 {
		n := chance(r)
		uid, gid, want := somebody(r, n.Uid), somebody(r, n.Gid), r.Intn(8)
		bits, may, owns := perm.Bits(n, uid, gid), perm.May(n, uid, gid, want), perm.Owns(n, uid)
		perm.Bits(chance(r), 0, 0)
		perm.May(chance(r), r.Uint32(), 0, 7)
		perm.Wants(r.Intn(600))
		if perm.Bits(n, uid, gid) != bits || perm.May(n, uid, gid, want) != may || perm.Owns(n, uid) != owns {
			t.Fatalf("P15.1: %+v: user %d in group %d: other answers", n, uid, gid)
		}
	}
}
