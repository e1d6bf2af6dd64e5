package perm_test

import (
	"math"
	"math/rand"
	"strconv"

	"oubliette/api"
)

// greatest: the greatest number of a user or a group.
const greatest = math.MaxUint32

// numbers: users and groups, with the least and the greatest.
var numbers = []uint32{0, 1, 2, 5, 7, 511, 512, 1 << 31, greatest - 1, greatest}

func newRand(seed int64) *rand.Rand {
	return rand.New(rand.NewSource(seed))
}

// owned: an inode with a mode, an owner and a group.
func owned(mode int, uid, gid uint32) api.Inode {
	return api.Inode{Kind: api.File, Mode: mode, Uid: uid, Gid: gid, Links: 1, Serial: 1}
}

// digits: a mode of nine bits in base eight, three digits: the owner's, the group's, the others'.
func digits(mode int) string {
	return strconv.FormatInt(int64(mode)+0o1000, 8)[1:]
}

// bitsOf: what the chapter's words say of somebody's bits for an inode with a mode of nine bits.
func bitsOf(n api.Inode, uid, gid uint32) int {
	d := digits(n.Mode)
	switch {
	case uid == 0:
		return 7
	case uid == n.Uid:
		return int(d[0] - '0')
	case gid == n.Gid:
		return int(d[1] - '0')
	}
	return int(d[2] - '0')
}

// has: whether a sum of 4, 2 and 1, from 0 to 7, has that one of them.
func has(sum, one int) bool {
	return sum/one%2 == 1
}

// among: whether what is wanted, from 0 to 7, is among the bits, one by one.
func among(want, bits int) bool {
	for _, one := range []int{4, 2, 1} {
		if has(want, one) && !has(bits, one) {
			return false
		}
	}
	return true
}

// lastThree: a number's last three bits, as what is left of it by eight.
func lastThree(want int) int {
	return (want%8 + 8) % 8
}

// somebody: a user or a group, the given one as often as not.
func somebody(r *rand.Rand, given uint32) uint32 {
	switch r.Intn(4) {
	case 0, 1:
		return given
	case 2:
		return numbers[r.Intn(len(numbers))]
	}
	return r.Uint32()
}

// chance: an inode of any mode of nine bits, with any owner and group.
func chance(r *rand.Rand) api.Inode {
	return owned(r.Intn(0o1000), somebody(r, 0), somebody(r, 0))
}
