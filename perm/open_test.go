package perm_test

import (
	"math"
	"testing"

	"oubliette/api"
	"oubliette/perm"
)

func TestOwns(t *testing.T) {
	for _, owner := range numbers {
		for _, uid := range numbers {
			told := uid == 0 || uid == owner
			if got := perm.Owns(owned(0o644, owner, 7), uid); got != told {
				t.Errorf("P15.2: Uid %d, user %d: %v", owner, uid, got)
			}
		}
	}
	for _, c := range []struct {
		owner, uid uint32
		owns       bool
	}{{5, 5, true}, {5, 0, true}, {5, 6, false}, {5, 7, false}, {0, 0, true}, {0, 5, false}, {0, greatest, false}, {greatest, greatest, true}, {greatest, 0, true}, {greatest, greatest - 1, false}} {
		if got := perm.Owns(owned(0, c.owner, 7), c.uid); got != c.owns {
			t.Errorf("P15.2: Uid %d, user %d: %v", c.owner, c.uid, got)
		}
	}
}

// Neither the mode nor the group tells who owns an inode.
func TestOwnsByChance(t *testing.T) {
	r := newRand(152)
	for range 20000 {
		n := chance(r)
		n.Mode = int(r.Uint64())
		uid := somebody(r, n.Uid)
		if r.Intn(3) == 0 {
			uid = n.Gid
		}
		if got, told := perm.Owns(n, uid), uid == 0 || uid == n.Uid; got != told {
			t.Fatalf("P15.2: %+v: user %d: %v", n, uid, got)
		}
	}
}

// wanted: what the flags that may be want.
func wanted() map[int]int {
	return map[int]int{0: 4, 1: 2, 2: 6, 512: 6, 513: 2, 514: 6}
}

func TestWants(t *testing.T) {
	for flags, want := range wanted() {
		if got, e := perm.Wants(flags); got != want || e != api.OK {
			t.Errorf("P15.3: Wants(%d): %d, %d, not %d, OK", flags, got, e, want)
		}
	}
}

// refused: that flags are none that may be.
func refused(t *testing.T, flags int) {
	t.Helper()
	if got, e := perm.Wants(flags); got != 0 || e != api.Inval {
		t.Errorf("P15.3: Wants(%d): %d, %d, not 0, Inval", flags, got, e)
	}
}

func TestWrongWants(t *testing.T) {
	for _, flags := range []int{
		3, 515, 4, 5, 6, 7, 8, 64, 256, 257, 511, 516, 520, 768, 1024, 1025, 1026, 1536, 1537, 1538, 2048, 0o100000,
		1 << 31, 1<<31 | 512, 1 << 32, 1<<32 + 1, 1<<32 | 512, 1 << 62, math.MaxInt, math.MaxInt - 1, math.MaxInt - 512,
		-1, -2, -3, -510, -511, -512, -513, -514, -1024, math.MinInt32, math.MinInt, math.MinInt + 1, math.MinInt + 2, math.MinInt + 512, math.MinInt + 514,
	} {
		refused(t, flags)
	}
	may := wanted()
	for flags := -70000; flags <= 70000; flags++ {
		if may[flags] == 0 {
			refused(t, flags)
		}
	}
}

// Flags with another bit besides, whichever it is, may not be.
func TestWantsWithAnotherBit(t *testing.T) {
	for flags := range wanted() {
		for place := 2; place < 64; place++ {
			if place != 9 {
				refused(t, flags|1<<place)
			}
		}
	}
}
