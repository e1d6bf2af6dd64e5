package grant_test

import (
	"testing"

	"oubliette/api"
	"oubliette/grant"
)

// TestTakeExample: the chapter's own.
func TestTakeExample(t *testing.T) {
	takes(t, grant.New(), 2, with(1), 1, api.OK)
	takes(t, with(1), 2, with(1), 0, api.NoSpace)
}

// TestTakeAll: from a new super on till nothing is left, slot by slot.
func TestTakeAll(t *testing.T) {
	limits := append(append(few(), many()...), 1, 2, 3, 7, 8, 9, 64, 128, 129, 254, 255)
	for _, limit := range limits {
		s, want := grant.New(), with()
		for slot := 1; slot < min(limit, 256); slot++ {
			want.Used[slot] = true
			takes(t, s, limit, want, slot, api.OK)
			s, _, _ = grant.Take(s, limit)
			counts(t, s, slot+1, 0)
			packs(t, s)
		}
		for range 3 {
			takes(t, s, limit, s, 0, api.NoSpace)
		}
		counts(t, s, max(1, min(limit, 256)), 0)
	}
}

// TestTakeOneFree: a super of all slots, and with one free at each place, under each limit.
func TestTakeOneFree(t *testing.T) {
	for _, from := range []api.Super{allUsed(), full()} {
		for _, limit := range append(few(), many()...) {
			takes(t, from, limit, from, 0, api.NoSpace)
		}
		counts(t, from, 256, grant.Inodes(from))
		for slot := 1; slot < 256; slot++ {
			s := from
			s.Used[slot] = false
			counts(t, s, 255, grant.Inodes(from))
			for limit := range 260 {
				if limit > slot {
					takes(t, s, limit, from, slot, api.OK)
				} else {
					takes(t, s, limit, s, 0, api.NoSpace)
				}
			}
			for _, limit := range few() {
				takes(t, s, limit, s, 0, api.NoSpace)
			}
			for _, limit := range many() {
				takes(t, s, limit, from, slot, api.OK)
			}
		}
	}
}

// TestTakeTheLeast: of two free slots the lesser one, and then the other one.
func TestTakeTheLeast(t *testing.T) {
	for less := 1; less < 256; less += 6 {
		for more := less + 1; more < 256; more++ {
			s := allUsed()
			s.Used[less], s.Used[more] = false, false
			one := s
			one.Used[less] = true
			takes(t, s, 256, one, less, api.OK)
			takes(t, one, 256, allUsed(), more, api.OK)
			takes(t, s, more, one, less, api.OK)
			takes(t, one, more, one, 0, api.NoSpace)
		}
	}
}

// TestGiveEach: what is used isn't then, once and again; it is the one that is taken next.
func TestGiveEach(t *testing.T) {
	for _, from := range []api.Super{allUsed(), full()} {
		for slot := 1; slot < 256; slot++ {
			want := from
			want.Used[slot] = false
			gives(t, from, slot, want)
			gives(t, want, slot, want)
			counts(t, grant.Give(from, slot), 255, grant.Inodes(from))
			takes(t, grant.Give(from, slot), 256, from, slot, api.OK)
		}
	}
}

// TestGiveWhatWasTaken: and what wasn't, and twice.
func TestGiveWhatWasTaken(t *testing.T) {
	s, slot, e := grant.Take(grant.New(), 256)
	if slot != 1 || e != api.OK {
		t.Fatalf("P10.2: Take: %d, %v", slot, e)
	}
	gives(t, s, 1, grant.New())
	gives(t, grant.Give(s, 1), 1, grant.New())
	for slot := 2; slot < 256; slot++ {
		gives(t, s, slot, s)
	}
	for slot := range 256 {
		gives(t, grant.New(), slot, grant.New())
	}
}

// TestGiveStays: slot 0, and what is no slot.
func TestGiveStays(t *testing.T) {
	for _, s := range []api.Super{grant.New(), with(1, 9, 255), allUsed(), full()} {
		gives(t, s, 0, s)
		for _, slot := range noSlots() {
			gives(t, s, slot, s)
		}
		for i := range 300 {
			gives(t, s, 256+i, s)
			gives(t, s, -1-i, s)
		}
	}
}
