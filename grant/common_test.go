package grant_test

import (
	"bytes"
	"encoding/binary"
	"math"
	"math/rand"
	"testing"

	"oubliette/api"
	"oubliette/grant"
)

// Where the parts of a super's block begin, and where they end.
const (
	serialAt  = 4
	usedAt    = 12
	inodesAt  = 44
	orphansAt = 172
	endAt     = 180
)

// model: a super by the chapter's words, as what is used and what there is.
type model struct {
	serial  uint64
	used    map[int]bool
	inodes  map[int]int // slots, of inodes that there are, and of 0, where no inode is
	orphans map[int]bool
}

func modelOf(s api.Super) model {
	m := model{s.Serial, map[int]bool{}, map[int]int{}, map[int]bool{}}
	for slot, used := range s.Used {
		if used {
			m.used[slot] = true
		}
	}
	for ino, slot := range s.Inodes {
		if slot != 0 {
			m.inodes[ino] = slot
		}
		if s.Orphans[ino] {
			m.orphans[ino] = true
		}
	}
	return m
}

// super: the model as what the calls are handed.
func (m model) super() api.Super {
	s := api.Super{Serial: m.serial}
	for slot := range m.used {
		s.Used[slot] = true
	}
	for ino, slot := range m.inodes {
		s.Inodes[ino] = slot
	}
	for ino := range m.orphans {
		s.Orphans[ino] = true
	}
	return s
}

// count: how many inodes there are.
func (m model) count() int {
	n := 0
	for ino := range m.inodes {
		if ino > 0 {
			n++
		}
	}
	return n
}

// mayBe: sentence by sentence.
func (m model) mayBe() bool {
	whose := map[int]int{}
	for ino, slot := range m.inodes {
		if ino == 0 || slot < 0 || slot > 255 || !m.used[slot] || whose[slot] != 0 {
			return false
		}
		whose[slot] = ino
	}
	for ino := range m.orphans {
		if m.inodes[ino] == 0 {
			return false
		}
	}
	return m.used[0] && m.serial != 0
}

func (m model) take(slots int) (int, api.Errno) {
	for slot := 0; slot < slots && slot < 256; slot++ {
		if !m.used[slot] {
			m.used[slot] = true
			return slot, api.OK
		}
	}
	return 0, api.NoSpace
}

func (m model) give(slot int) {
	if slot != 0 {
		delete(m.used, slot)
	}
}

func (m model) add(slots int) (int, api.Errno) {
	for ino := 1; ino <= 64; ino++ {
		if m.inodes[ino] == 0 {
			slot, e := m.take(slots)
			if e != api.OK {
				return 0, e
			}
			if slot != 0 {
				m.inodes[ino] = slot
			}
			return ino, api.OK
		}
	}
	return 0, api.NoFile
}

func (m model) remove(ino int) {
	if ino > 0 && m.inodes[ino] != 0 {
		m.give(m.inodes[ino])
		delete(m.inodes, ino)
		delete(m.orphans, ino)
	}
}

// wantBlock: a super's block, written place by place.
func wantBlock(s api.Super) []byte {
	b := make([]byte, 256)
	copy(b, []byte{0x4f, 0x55, 0x42, 0x31})
	binary.LittleEndian.PutUint64(b[serialAt:], s.Serial)
	for slot, used := range s.Used {
		if used {
			b[usedAt+slot/8] += 1 << (slot % 8)
		}
	}
	for ino := 1; ino <= 64; ino++ {
		binary.LittleEndian.PutUint16(b[inodesAt+2*(ino-1):], uint16(s.Inodes[ino]))
		if s.Orphans[ino] {
			b[orphansAt+(ino-1)/8] += 1 << ((ino - 1) % 8)
		}
	}
	return b
}

// readBlock: the super that a block is of, read place by place, and whether it is one's.
func readBlock(b []byte) (api.Super, bool) {
	if len(b) != 256 || !bytes.Equal(b[:serialAt], []byte("OUB1")) || !bytes.Equal(b[endAt:], make([]byte, 256-endAt)) {
		return api.Super{}, false
	}
	s := api.Super{Serial: binary.LittleEndian.Uint64(b[serialAt:])}
	for slot := range s.Used {
		s.Used[slot] = b[usedAt+slot/8]&(1<<(slot%8)) != 0
	}
	for ino := 1; ino <= 64; ino++ {
		s.Inodes[ino] = int(binary.LittleEndian.Uint16(b[inodesAt+2*(ino-1):]))
		s.Orphans[ino] = b[orphansAt+(ino-1)/8]&(1<<((ino-1)%8)) != 0
	}
	if !modelOf(s).mayBe() {
		return api.Super{}, false
	}
	return s, true
}

// set: a copy of bytes, with another one at a place.
func set(b []byte, at int, x byte) []byte {
	out := append([]byte(nil), b...)
	out[at] = x
	return out
}

// packs: a super has the block that it should have, and the block the super.
func packs(t *testing.T, s api.Super) {
	t.Helper()
	b, e := grant.Pack(s)
	if want := wantBlock(s); e != api.OK || !bytes.Equal(b, want) {
		t.Fatalf("P10.1: Pack(%v): %x, %v; not %x", s, b, e, want)
	}
	back, e := grant.Unpack(b)
	if e != api.OK || back != s {
		t.Fatalf("P10.1: Unpack(%x): %v, %v; not %v", b, back, e, s)
	}
}

// noForm: bytes that are no super's block.
func noForm(t *testing.T, why string, b []byte) {
	t.Helper()
	if s, e := grant.Unpack(b); e != api.ErrForm || s != (api.Super{}) {
		t.Fatalf("P10.1: %s: Unpack(%x): %v, %v; not ErrForm", why, b, s, e)
	}
}

// counts: how many slots are used, and how many inodes there are.
func counts(t *testing.T, s api.Super, slots, inodes int) {
	t.Helper()
	if n := grant.Count(s); n != slots {
		t.Fatalf("P10.4: Count(%v): %d, not %d", s, n, slots)
	}
	if n := grant.Inodes(s); n != inodes {
		t.Fatalf("P10.4: Inodes(%v): %d, not %d", s, n, inodes)
	}
}

// takes, gives, adds, removes: the call's answer is this one, and each field of the super.
func takes(t *testing.T, s api.Super, slots int, want api.Super, slot int, code api.Errno) {
	t.Helper()
	if got, n, e := grant.Take(s, slots); got != want || n != slot || e != code {
		t.Fatalf("P10.2: Take(%v, %d): %v, %d, %v; not %v, %d, %v", s, slots, got, n, e, want, slot, code)
	}
}

func gives(t *testing.T, s api.Super, slot int, want api.Super) {
	t.Helper()
	if got := grant.Give(s, slot); got != want {
		t.Fatalf("P10.2: Give(%v, %d): %v; not %v", s, slot, got, want)
	}
}

func adds(t *testing.T, s api.Super, slots int, want api.Super, ino int, code api.Errno) {
	t.Helper()
	if got, n, e := grant.Add(s, slots); got != want || n != ino || e != code {
		t.Fatalf("P10.3: Add(%v, %d): %v, %d, %v; not %v, %d, %v", s, slots, got, n, e, want, ino, code)
	}
}

func removes(t *testing.T, s api.Super, ino int, want api.Super) {
	t.Helper()
	if got := grant.Remove(s, ino); got != want {
		t.Fatalf("P10.3: Remove(%v, %d): %v; not %v", s, ino, got, want)
	}
}

// with: a super of these slots besides 0, and no inode.
func with(slots ...int) api.Super {
	s := api.Super{Serial: 1}
	s.Used[0] = true
	for _, slot := range slots {
		s.Used[slot] = true
	}
	return s
}

// allUsed: a super of all slots, and no inode.
func allUsed() api.Super {
	s := api.Super{Serial: 1}
	for slot := range s.Used {
		s.Used[slot] = true
	}
	return s
}

// full: a super of all slots and all inodes, whose slots are the last ones, the greatest one first; every third an orphan.
func full() api.Super {
	s := allUsed()
	s.Serial = math.MaxUint64
	for ino := 1; ino <= 64; ino++ {
		s.Inodes[ino] = 256 - ino
		s.Orphans[ino] = ino%3 == 1
	}
	return s
}

// byChance: a super that may be, from few slots to nearly all, from no inode to all.
func byChance(r *rand.Rand) api.Super {
	s := api.Super{Serial: r.Uint64()>>r.Intn(64) | 1<<r.Intn(64)}
	s.Used[0] = true
	often := r.Intn(101)
	var slots []int
	for slot := 1; slot < 256; slot++ {
		if r.Intn(100) < often {
			s.Used[slot] = true
			slots = append(slots, slot)
		}
	}
	r.Shuffle(len(slots), func(i, j int) { slots[i], slots[j] = slots[j], slots[i] })
	often = r.Intn(101)
	for ino := 1; ino <= 64 && len(slots) > 0; ino++ {
		if r.Intn(100) < often {
			s.Inodes[ino] = slots[0]
			s.Orphans[ino] = r.Intn(3) == 0
			slots = slots[1:]
		}
	}
	return s
}

// wrong: a super that may not be, and why.
type wrong struct {
	why string
	s   api.Super
}

// wrongs: from a super that may be, some supers that may not be, for each way of it.
func wrongs(from api.Super) []wrong {
	var out []wrong
	add := func(why string, change func(s *api.Super)) {
		s := from
		change(&s)
		out = append(out, wrong{why, s})
	}
	add("slot 0 isn't used", func(s *api.Super) { s.Used[0] = false })
	add("serial 0", func(s *api.Super) { s.Serial = 0 })
	add("orphan 0", func(s *api.Super) { s.Orphans[0] = true })
	for _, slot := range append(noSlots(), 1, 2, 100, 255) {
		add("inode 0 has a slot", func(s *api.Super) { s.Inodes[0] = slot; s.Used[slot&255] = true })
	}
	for _, ino := range []int{1, 2, 31, 63, 64} {
		for _, slot := range noSlots() {
			add("a slot that isn't", func(s *api.Super) { s.Inodes[ino] = slot })
		}
		for _, slot := range []int{1, 7, 8, 128, 255} {
			add("a slot that isn't used", func(s *api.Super) { s.Inodes[ino] = slot; s.Used[slot] = false })
			for _, other := range []int{1, 2, 32, 63, 64} {
				if other != ino {
					add("two inodes of one slot", func(s *api.Super) {
						s.Inodes[ino], s.Inodes[other], s.Used[slot] = slot, slot, true
					})
				}
			}
		}
		add("an orphan that isn't there", func(s *api.Super) { s.Inodes[ino] = 0; s.Orphans[ino] = true })
	}
	return out
}

// noSlots: some numbers that are no slot; the last bytes of some are small.
func noSlots() []int {
	return []int{
		-1, -2, -255, -256, -257, -65535, -65536, -65536 + 9, math.MinInt32, math.MinInt, math.MinInt + 1,
		256, 257, 258, 511, 512, 65535, 65536, 65537, 1 << 32, 1<<32 + 1, 1<<32 + 255, math.MaxInt32, math.MaxInt, math.MaxInt - 1,
	}
}

// noInodes: some numbers that are no inode.
func noInodes() []int {
	return append(noSlots(), 0, -63, -64, -65, 65, 66, 127, 128, 129, 255)
}

// few, many: limits of slots, of which the first ones leave none at all, and the second ones all.
func few() []int {
	return []int{0, -1, -2, -256, -257, 1 - 1<<32, -1 << 32, math.MinInt32, math.MinInt, math.MinInt + 1}
}

func many() []int {
	return []int{256, 257, 1024, 65536, 1 << 32, 1<<32 + 1, math.MaxInt32, math.MaxInt, math.MaxInt - 1}
}
