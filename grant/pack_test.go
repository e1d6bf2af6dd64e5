package grant_test

import (
	"bytes"
	"math"
	"math/rand"
	"testing"

	"oubliette/api"
	"oubliette/grant"
)

// TestNew: each field, and its block byte by byte.
func TestNew(t *testing.T) {
	s := grant.New()
	if s.Serial != 1 {
		t.Errorf("P10.1: New: serial %d", s.Serial)
	}
	for slot, used := range s.Used {
		if used != (slot == 0) {
			t.Errorf("P10.1: New: slot %d: %v", slot, used)
		}
	}
	for ino, slot := range s.Inodes {
		if slot != 0 || s.Orphans[ino] {
			t.Errorf("P10.1: New: inode %d: %d, %v", ino, slot, s.Orphans[ino])
		}
	}
	counts(t, s, 1, 0)
	b, e := grant.Pack(s)
	if e != api.OK || len(b) != 256 {
		t.Fatalf("P10.1: Pack(New): %x, %v", b, e)
	}
	begin := []byte{0x4f, 0x55, 0x42, 0x31, 1, 0, 0, 0, 0, 0, 0, 0, 1}
	for at, x := range b {
		var want byte
		if at < len(begin) {
			want = begin[at]
		}
		if x != want {
			t.Errorf("P10.1: Pack(New): byte %d: %x, not %x", at, x, want)
		}
	}
	packs(t, s)
	s.Used[1], s.Inodes[1], s.Serial = true, 1, 9
	if grant.New() == s || grant.New().Serial != 1 {
		t.Error("P10.1: New tells what was changed")
	}
}

// TestBytesByHand: one super, of whose parts no two bytes are alike.
func TestBytesByHand(t *testing.T) {
	s := with(1, 9, 10, 17, 18, 19, 252, 253, 254, 255)
	s.Serial = 0x0102030405060708
	s.Inodes[1], s.Inodes[2], s.Inodes[9], s.Inodes[63], s.Inodes[64] = 255, 1, 254, 18, 9
	s.Orphans[1], s.Orphans[9], s.Orphans[63], s.Orphans[64] = true, true, true, true
	want := make([]byte, 256)
	copy(want, []byte{
		0x4f, 0x55, 0x42, 0x31, 8, 7, 6, 5, 4, 3, 2, 1,
		0x03, 0x06, 0x0e, 31: 0,
		43: 0xf0, 44: 255, 0, 1, 0,
		60: 254, 168: 18, 0, 9, 0,
		0x01, 0x01, 179: 0xc0,
	})
	if b, e := grant.Pack(s); e != api.OK || !bytes.Equal(b, want) {
		t.Errorf("P10.1: Pack: %x, %v; not %x", b, e, want)
	}
	packs(t, s)
}

// TestEachBitOfUsed: slot by slot, alone and all but it; so the first and the last bit of every byte.
func TestEachBitOfUsed(t *testing.T) {
	empty := wantBlock(with())
	for slot := 1; slot < 256; slot++ {
		packs(t, with(slot))
		want := set(empty, 12+slot/8, empty[12+slot/8]|1<<(slot%8))
		if b, _ := grant.Pack(with(slot)); !bytes.Equal(b, want) {
			t.Fatalf("P10.1: slot %d: %x, not %x", slot, b, want)
		}
		s := allUsed()
		s.Used[slot] = false
		packs(t, s)
	}
	packs(t, allUsed())
}

// TestEachBitOfOrphans: inode by inode, alone and all but it; so the first and the last bit of every byte.
func TestEachBitOfOrphans(t *testing.T) {
	s, all := full(), full()
	for ino := 1; ino <= 64; ino++ {
		s.Orphans[ino], all.Orphans[ino] = false, true
	}
	none := wantBlock(s)
	packs(t, s)
	packs(t, all)
	for ino := 1; ino <= 64; ino++ {
		one, but := s, all
		one.Orphans[ino], but.Orphans[ino] = true, false
		packs(t, one)
		packs(t, but)
		want := set(none, 172+(ino-1)/8, 1<<((ino-1)%8))
		if b, _ := grant.Pack(one); !bytes.Equal(b, want) {
			t.Fatalf("P10.1: orphan %d: %x, not %x", ino, b, want)
		}
		alone := with(ino)
		alone.Inodes[ino], alone.Orphans[ino] = ino, true
		packs(t, alone)
	}
}

// TestEachSlotOfEachInode: among them inodes 1 and 64, and slots 1 and 255.
func TestEachSlotOfEachInode(t *testing.T) {
	for ino := 1; ino <= 64; ino++ {
		for slot := 1; slot < 256; slot++ {
			s := with(slot)
			s.Inodes[ino] = slot
			b, e := grant.Pack(s)
			want := wantBlock(with(slot))
			want[44+2*(ino-1)] = byte(slot)
			if e != api.OK || !bytes.Equal(b, want) {
				t.Fatalf("P10.1: inode %d in slot %d: %x, %v; not %x", ino, slot, b, e, want)
			}
			if back, e := grant.Unpack(b); e != api.OK || back != s {
				t.Fatalf("P10.1: inode %d in slot %d: Unpack: %v, %v", ino, slot, back, e)
			}
		}
	}
}

func TestSerials(t *testing.T) {
	list := []uint64{1, 2, 255, 256, 257, 1<<32 - 1, 1 << 32, 1<<63 - 1, math.MaxUint64, math.MaxUint64 - 1, 0x0807060504030201}
	for bit := range 64 {
		list = append(list, 1<<bit)
	}
	for _, serial := range list {
		for _, s := range []api.Super{with(), full()} {
			s.Serial = serial
			packs(t, s)
		}
	}
}

// TestPackByChance: supers that may be, there and back.
func TestPackByChance(t *testing.T) {
	r := rand.New(rand.NewSource(10))
	for range 3000 {
		s := byChance(r)
		if !modelOf(s).mayBe() {
			t.Fatalf("the test's own: %v", s)
		}
		packs(t, s)
	}
	packs(t, full())
}

// TestPackWrong: each way in which a super may not be, from several that may.
func TestPackWrong(t *testing.T) {
	r := rand.New(rand.NewSource(101))
	for _, from := range []api.Super{grant.New(), full(), allUsed(), byChance(r), byChance(r), byChance(r)} {
		packs(t, from)
		for _, w := range wrongs(from) {
			if modelOf(w.s).mayBe() {
				t.Fatalf("the test's own: %s: %v", w.why, w.s)
			}
			if b, e := grant.Pack(w.s); b != nil || e != api.ErrArg {
				t.Fatalf("P10.1: %s: Pack(%v): %x, %v; not ErrArg", w.why, w.s, b, e)
			}
		}
	}
	if b, e := grant.Pack(api.Super{}); b != nil || e != api.ErrArg {
		t.Errorf("P10.1: Pack of no super: %x, %v", b, e)
	}
}

// TestMemory: a block is new each time, and bytes that were handed in stay as they are, and aren't kept.
func TestMemory(t *testing.T) {
	s := full()
	want := wantBlock(s)
	a, _ := grant.Pack(s)
	b, _ := grant.Pack(s)
	for i := range a {
		a[i] ^= 0xff
	}
	_ = append(b, 1, 2, 3)
	if c, _ := grant.Pack(s); !bytes.Equal(b, want) || !bytes.Equal(c, want) {
		t.Error("P10.1: blocks share memory")
	}
	in := append(make([]byte, 0, 512), want...)
	spare := in[256:512]
	for i := range spare {
		spare[i] = 0xa5
	}
	got, e := grant.Unpack(in)
	if e != api.OK || !bytes.Equal(in, want) || !bytes.Equal(spare, bytes.Repeat([]byte{0xa5}, 256)) {
		t.Errorf("P10.1: Unpack: %v, and the bytes are %x", e, in)
	}
	clear(in)
	if got != s {
		t.Error("P10.1: Unpack keeps what it was handed")
	}
}
