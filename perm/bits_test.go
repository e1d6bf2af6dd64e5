package perm_test

import (
	"math"
	"testing"

	"oubliette/api"
	"oubliette/perm"
)

func TestBitsExamples(t *testing.T) {
	n := owned(0o640, 5, 7)
	for _, c := range []struct {
		uid, gid uint32
		bits     int
	}{{5, 7, 6}, {5, 8, 6}, {6, 7, 4}, {6, 8, 0}, {0, 0, 7}, {0, 7, 7}} {
		if got := perm.Bits(n, c.uid, c.gid); got != c.bits {
			t.Errorf("P15.1: Mode 640, Uid 5, Gid 7: user %d in group %d: %d, not %d", c.uid, c.gid, got, c.bits)
		}
	}
}

// Every mode: the owner (in the group, or not), one of the group, one that is neither.
func TestBitsOfEachMode(t *testing.T) {
	for mode := range 0o1000 {
		n := owned(mode, 5, 7)
		first, middle, last := mode/64, mode/8%8, mode%8
		for _, c := range []struct {
			uid, gid uint32
			bits     int
		}{{5, 8, first}, {5, 7, first}, {5, 0, first}, {6, 7, middle}, {7, 7, middle}, {6, 8, last}, {7, 5, last}, {6, 0, last}, {0, 8, 7}, {0, 7, 7}, {0, 0, 7}} {
			if got := perm.Bits(n, c.uid, c.gid); got != c.bits {
				t.Fatalf("P15.1: Mode %s, Uid 5, Gid 7: user %d in group %d: %d, not %d", digits(mode), c.uid, c.gid, got, c.bits)
			}
		}
	}
}

// Who is the owner has the owner's bits alone, however few; who is of the group the group's.
func TestOthersBitsDoNotHelp(t *testing.T) {
	for _, c := range []struct {
		mode     int
		uid, gid uint32
		bits     int
	}{
		{0o077, 5, 7, 0}, {0o077, 5, 8, 0}, {0o177, 5, 7, 1}, {0o467, 5, 7, 4}, {0o007, 5, 8, 0},
		{0o707, 6, 7, 0}, {0o717, 6, 7, 1}, {0o770, 6, 8, 0},
	} {
		n := owned(c.mode, 5, 7)
		if got := perm.Bits(n, c.uid, c.gid); got != c.bits {
			t.Errorf("P15.1: Mode %s, Uid 5, Gid 7: user %d in group %d: %d, not %d", digits(c.mode), c.uid, c.gid, got, c.bits)
		}
		for want := range 8 {
			if got := perm.May(n, c.uid, c.gid, want); got != among(want, c.bits) {
				t.Errorf("P15.1: Mode %s, Uid 5, Gid 7: user %d in group %d may for %d: %v", digits(c.mode), c.uid, c.gid, want, got)
			}
		}
	}
}

// Users and groups of every kind: each with each, the least and the greatest among them.
func TestBitsOfEachNumber(t *testing.T) {
	for _, mode := range []int{0, 0o124, 0o421, 0o640, 0o777, 0o035} {
		for _, owner := range numbers {
			for _, group := range numbers {
				n := owned(mode, owner, group)
				for _, uid := range numbers {
					for _, gid := range numbers {
						if got, told := perm.Bits(n, uid, gid), bitsOf(n, uid, gid); got != told {
							t.Fatalf("P15.1: Mode %s, Uid %d, Gid %d: user %d in group %d: %d, not %d", digits(mode), owner, group, uid, gid, got, told)
						}
					}
				}
			}
		}
	}
}

// The user 0 has all, whoever owns the inode.
func TestUserZero(t *testing.T) {
	for mode := range 0o1000 {
		for _, owner := range numbers {
			for _, gid := range numbers {
				n := owned(mode, owner, 7)
				if got := perm.Bits(n, 0, gid); got != 7 {
					t.Fatalf("P15.1: Mode %s, Uid %d: user 0 in group %d: %d, not 7", digits(mode), owner, gid, got)
				}
			}
		}
	}
}

// The group 0 is one like the others: it has no more than its bits.
func TestGroupZero(t *testing.T) {
	if got := perm.Bits(owned(0o640, 5, 7), 6, 0); got != 0 {
		t.Errorf("P15.1: group 0 of an inode of group 7: %d, not 0", got)
	}
	if got := perm.Bits(owned(0o640, 5, 0), 6, 0); got != 4 {
		t.Errorf("P15.1: group 0 of an inode of group 0: %d, not 4", got)
	}
}

// Bits of a mode above the nine ones tell nothing.
func TestBitsAboveNine(t *testing.T) {
	for _, above := range []int{0o1000, 0o2000, 0o4000, 0o7000, 0o100000, 1 << 31, 1 << 32, 1 << 62, math.MaxInt - 0o777} {
		for mode := range 0o1000 {
			n, more := owned(mode, 5, 7), owned(mode|above, 5, 7)
			for _, uid := range []uint32{0, 5, 6} {
				for _, gid := range []uint32{7, 8} {
					if got, told := perm.Bits(more, uid, gid), bitsOf(n, uid, gid); got != told {
						t.Fatalf("P15.1: Mode %s and %x: user %d in group %d: %d, not %d", digits(mode), above, uid, gid, got, told)
					}
				}
			}
		}
	}
}

// Whatever the mode is, the bits are 0 to 7.
func TestBitsRange(t *testing.T) {
	for _, mode := range []int{-1, -2, -0o777, -0o1000, math.MinInt, math.MinInt + 1, math.MaxInt, math.MaxInt32, math.MinInt32} {
		for _, uid := range []uint32{0, 5, 6, greatest} {
			for _, gid := range []uint32{0, 7, 8, greatest} {
				n := owned(mode, 5, 7)
				got := perm.Bits(n, uid, gid)
				if got < 0 || got > 7 {
					t.Errorf("P15.1: Mode %d: user %d in group %d: %d", mode, uid, gid, got)
				}
				for want := range 8 {
					if may := perm.May(n, uid, gid, want); may != among(want, got) {
						t.Errorf("P15.1: Mode %d: user %d in group %d with the bits %d may for %d: %v", mode, uid, gid, got, want, may)
					}
				}
			}
		}
	}
}

// What else an inode tells has no weight.
func TestOtherFields(t *testing.T) {
	r := newRand(15)
	for range 2000 {
		n := chance(r)
		m := api.Inode{
			Kind: r.Intn(5), Mode: n.Mode, Uid: n.Uid, Gid: n.Gid, Links: r.Intn(9), Size: r.Int(), Serial: r.Uint64(),
			Version: r.Uint32(), Parent: r.Intn(65), Cookie: r.Uint32(), List: r.Intn(256),
		}
		for k := range m.Slots {
			m.Slots[k] = r.Intn(256)
		}
		uid, gid, want := somebody(r, n.Uid), somebody(r, n.Gid), r.Intn(8)
		if got, told := perm.Bits(m, uid, gid), bitsOf(n, uid, gid); got != told {
			t.Fatalf("P15.1: %+v: user %d in group %d: %d, not %d", m, uid, gid, got, told)
		}
		if got, told := perm.May(m, uid, gid, want), among(want, bitsOf(n, uid, gid)); got != told {
			t.Fatalf("P15.1: %+v: user %d in group %d may for %d: %v", m, uid, gid, want, got)
		}
	}
}

// Each want of each mode, by each kind of user.
func TestMayOfEachWant(t *testing.T) {
	for mode := range 0o1000 {
		n := owned(mode, 5, 7)
		for want := range 8 {
			for _, uid := range []uint32{0, 5, 6} {
				for _, gid := range []uint32{7, 8} {
					told := among(want, bitsOf(n, uid, gid))
					if got := perm.May(n, uid, gid, want); got != told {
						t.Fatalf("P15.1: Mode %s, Uid 5, Gid 7: user %d in group %d may for %d: %v", digits(mode), uid, gid, want, got)
					}
				}
			}
		}
	}
}

// Nothing that is wanted: always.
func TestMayOfNothing(t *testing.T) {
	for _, owner := range numbers {
		for _, uid := range numbers {
			for _, want := range []int{0, 8, -8, 512, math.MinInt, math.MaxInt - 7} {
				if !perm.May(owned(0, owner, 7), uid, 8, want) {
					t.Fatalf("P15.1: Mode 0, Uid %d: user %d may not for %d", owner, uid, want)
				}
			}
		}
	}
}

// A want above 7 or below 0 is its last three bits.
func TestMayOfOtherWants(t *testing.T) {
	wants := []int{
		8, 9, 10, 11, 12, 15, 16, 63, 64, 512, 513, 514, 516, 0o777, 1 << 32, 1<<32 + 2, 1<<62 + 5,
		math.MaxInt, math.MaxInt - 1, math.MaxInt - 2, math.MaxInt - 3, math.MaxInt - 4,
		-1, -2, -3, -4, -5, -6, -7, -8, -9, -512, -513, -516, math.MinInt, math.MinInt + 1, math.MinInt + 2, math.MinInt + 4, math.MinInt + 7,
	}
	for mode := range 0o1000 {
		n := owned(mode, 5, 7)
		for _, want := range wants {
			for _, uid := range []uint32{0, 5, 6} {
				for _, gid := range []uint32{7, 8} {
					told := among(lastThree(want), bitsOf(n, uid, gid))
					if got := perm.May(n, uid, gid, want); got != told {
						t.Fatalf("P15.1: Mode %s, Uid 5, Gid 7: user %d in group %d may for %d: %v", digits(mode), uid, gid, want, got)
					}
				}
			}
		}
	}
}

// Inodes, users and groups by chance.
func TestBitsByChance(t *testing.T) {
	r := newRand(151)
	for range 50000 {
		n := chance(r)
		uid, gid, want := somebody(r, n.Uid), somebody(r, n.Gid), int(r.Uint64())>>r.Intn(64)
		told := bitsOf(n, uid, gid)
		if got := perm.Bits(n, uid, gid); got != told {
			t.Fatalf("P15.1: %+v: user %d in group %d: %d, not %d", n, uid, gid, got, told)
		}
		if got := perm.May(n, uid, gid, want); got != among(lastThree(want), told) {
			t.Fatalf("P15.1: %+v: user %d in group %d may for %d: %v", n, uid, gid, want, got)
		}
	}
}
