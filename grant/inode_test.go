package grant_test

import (
	"testing"

	"oubliette/api"
	"oubliette/grant"
)

// TestAddExample: the chapter's own.
func TestAddExample(t *testing.T) {
	want := with(1)
	want.Inodes[1] = 1
	adds(t, grant.New(), 256, want, 1, api.OK)
}

// TestAddAll: from a new super on till nothing is left, inode by inode.
func TestAddAll(t *testing.T) {
	limits := append(append(few(), many()...), 1, 2, 3, 9, 63, 64, 65, 66, 67, 254, 255)
	for _, limit := range limits {
		s, want := grant.New(), with()
		for ino := 1; ino < min(limit, 65); ino++ {
			want.Used[ino], want.Inodes[ino] = true, ino
			adds(t, s, limit, want, ino, api.OK)
			s, _, _ = grant.Add(s, limit)
			counts(t, s, ino+1, ino)
			packs(t, s)
		}
		code := api.NoSpace
		if limit > 64 {
			code = api.NoFile
		}
		for range 3 {
			adds(t, s, limit, s, 0, code)
		}
	}
}

// sixtyFour: a super of all inodes, whose slots are those from 2 on, every second one.
func sixtyFour() api.Super {
	s := with()
	for ino := 1; ino <= 64; ino++ {
		s.Used[2*ino], s.Inodes[ino] = true, 2*ino
	}
	return s
}

// TestAddErrors: no inode left, no slot left, each alone and both at once; the super stays.
func TestAddErrors(t *testing.T) {
	s := sixtyFour()
	counts(t, s, 65, 64)
	for _, limit := range append(append(few(), many()...), 1, 2, 255) {
		adds(t, s, limit, s, 0, api.NoFile) // inodes alone, or, of few slots, both
		adds(t, full(), limit, full(), 0, api.NoFile)
		adds(t, allUsed(), limit, allUsed(), 0, api.NoSpace)
	}
	for ino := 1; ino <= 64; ino++ {
		s := full()
		s.Inodes[ino], s.Orphans[ino] = 0, false // its slot is used yet
		adds(t, s, 256, s, 0, api.NoSpace)
		for _, limit := range few() {
			adds(t, grant.Remove(full(), ino), limit, grant.Remove(full(), ino), 0, api.NoSpace)
		}
	}
	for _, limit := range few() {
		adds(t, grant.New(), limit, grant.New(), 0, api.NoSpace)
	}
	adds(t, grant.New(), 1, grant.New(), 0, api.NoSpace)
}

// TestAddAgain: of 64 inodes the one that is removed is the one that is taken next, with its slot, if that is the least one.
func TestAddAgain(t *testing.T) {
	for ino := 1; ino <= 64; ino++ {
		s := full()
		s.Orphans[ino] = false
		adds(t, grant.Remove(full(), ino), 256, s, ino, api.OK)
		gap, want := grant.Remove(sixtyFour(), ino), sixtyFour()
		counts(t, gap, 64, 63)
		want.Used[2*ino], want.Used[1], want.Inodes[ino] = false, true, 1
		adds(t, gap, 256, want, ino, api.OK)
		for other := ino + 1; other <= 64; other++ {
			two := grant.Remove(gap, other)
			want := grant.Remove(want, other)
			adds(t, two, 256, want, ino, api.OK)
			adds(t, grant.Remove(grant.Remove(sixtyFour(), other), ino), 256, want, ino, api.OK)
		}
	}
}

// TestRemoveEach: there is no such inode, no such orphan, its slot isn't used, and all else stays; once and again.
func TestRemoveEach(t *testing.T) {
	for _, orphan := range []bool{false, true} {
		for ino := 1; ino <= 64; ino++ {
			for _, s := range []api.Super{full(), sixtyFour()} {
				s.Orphans[ino] = orphan
				want := s
				want.Used[s.Inodes[ino]], want.Inodes[ino], want.Orphans[ino] = false, 0, false
				removes(t, s, ino, want)
				removes(t, want, ino, want)
				counts(t, grant.Remove(s, ino), grant.Count(s)-1, 63)
				packs(t, grant.Remove(s, ino))
			}
		}
	}
}

// TestRemoveWhatIsNone: inodes that there aren't, and numbers that are no inode.
func TestRemoveWhatIsNone(t *testing.T) {
	for _, s := range []api.Super{grant.New(), with(1, 2, 64, 255), allUsed(), sixtyFour(), full()} {
		for _, ino := range noInodes() {
			removes(t, s, ino, s)
		}
		for i := range 300 {
			removes(t, s, 65+i, s)
			removes(t, s, -i, s)
		}
		for ino := 1; ino <= 64; ino++ {
			if s.Inodes[ino] == 0 {
				removes(t, s, ino, s)
			}
		}
	}
	one, _, _ := grant.Add(grant.New(), 256)
	for ino := 2; ino <= 64; ino++ {
		removes(t, one, ino, one)
	}
	removes(t, one, 1, grant.New())
}

// TestGiveOfAnInodesSlot: the inode stays; it is Remove that takes it away.
func TestGiveOfAnInodesSlot(t *testing.T) {
	for ino := 1; ino <= 64; ino++ {
		want := full()
		slot := want.Inodes[ino]
		want.Used[slot] = false
		gives(t, full(), slot, want)
		counts(t, want, 255, 64)
		less := want
		less.Inodes[ino], less.Orphans[ino] = 0, false
		removes(t, want, ino, less)
	}
}

// TestSerialStays: of no call is the serial another one.
func TestSerialStays(t *testing.T) {
	s := with(1, 3)
	s.Serial, s.Inodes[2] = 77, 3
	took, _, _ := grant.Take(s, 256)
	more, _, _ := grant.Add(s, 256)
	for k, got := range []api.Super{took, more, grant.Give(s, 1), grant.Remove(s, 2)} {
		if got.Serial != 77 || got == s {
			t.Errorf("P10.3: call %d: %v", k, got)
		}
	}
}
