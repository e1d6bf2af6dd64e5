package inode_test

import (
	"bytes"
	"encoding/binary"
	"math/rand"
	"testing"

	"oubliette/api"
	"oubliette/inode"
)

func TestUnpackZeros(t *testing.T) {
	noForm(t, "Kind 0", make([]byte, 256))
	unpacksList(t, make([]byte, 256), list{})
}

func TestUnpackLengths(t *testing.T) {
	for _, n := range bases() {
		b := wantBlock(n)
		for _, size := range []int{0, 1, endAt - 1, endAt, endAt + 1, 128, 255} {
			noForm(t, "short", b[:size])
		}
		noForm(t, "long", append(b[:256:256], 0))
		noForm(t, "long", append(b[:256:256], make([]byte, 256)...))
		noForm(t, "twice", append(b[:256:256], b...))
	}
	noForm(t, "none", nil)
}

func TestUnpackRest(t *testing.T) {
	for _, n := range bases() {
		for at := endAt; at < 256; at++ {
			for _, x := range []byte{1, 2, 128, 255} {
				noForm(t, "behind the fields", set(wantBlock(n), at, x))
			}
		}
	}
}

// Each byte of a block at each value: the block of the inode that it should be, or of none.
func TestUnpackEachByte(t *testing.T) {
	for _, n := range bases() {
		b := wantBlock(n)
		for at := range b {
			for x := range 256 {
				reads(t, set(b, at, byte(x)))
			}
		}
	}
}

// Each field of two bytes at each value.
func TestUnpackEachShort(t *testing.T) {
	for _, at := range []int{modeAt, linksAt, parentAt, slotsAt, slotsAt + 14, slotsAt + 30, listAt} {
		b := wantBlock(mixed())
		for v := range 1 << 16 {
			binary.LittleEndian.PutUint16(b[at:], uint16(v))
			reads(t, b)
		}
	}
}

func TestUnpackFields(t *testing.T) {
	for _, n := range bases() {
		b := wantBlock(n)
		noForm(t, "Kind", set(b, kindAt, 0))
		noForm(t, "Kind", set(b, kindAt, 4))
		noForm(t, "Mode", set(b, modeAt, 0, 2))
		noForm(t, "Mode", set(b, modeAt, 0xff, 0xff))
		noForm(t, "Links", set(b, linksAt, 1, 0x80))
		noForm(t, "Links", set(b, linksAt, 0xff, 0xff))
		for _, size := range [][]byte{{1, 0x80, 0, 0}, {0, 0, 1, 0}, {0, 0, 0, 0x80}, {0xff, 0xff, 0xff, 0xff}, {1, 0, 1, 0}} {
			noForm(t, "Size", set(b, sizeAt, size...))
		}
		noForm(t, "Serial", set(b, serialAt, make([]byte, 8)...))
		noForm(t, "Parent", set(b, parentAt, 65, 0))
		noForm(t, "Parent", set(b, parentAt, 0, 1))
		for k := range 17 {
			noForm(t, "Slots", set(b, slotsAt+2*k, 0, 1))
			noForm(t, "Slots", set(b, slotsAt+2*k, 0xff, 0xff))
		}
	}
}

func TestUnpackByChance(t *testing.T) {
	r := rand.New(rand.NewSource(12))
	for range 5000 {
		b := wantBlock(byChance(r))
		reads(t, b)
		for range 1 + r.Intn(3) {
			b[r.Intn(endAt)] = byte(r.Intn(256))
		}
		reads(t, b)
		r.Read(b)
		reads(t, b)
		copy(b[endAt:], make([]byte, 256))
		b[kindAt] = byte(r.Intn(5))
		reads(t, b)
	}
}

// One block each way: of what Unpack reads, Pack answers the very bytes.
func TestThereAndBack(t *testing.T) {
	r := rand.New(rand.NewSource(13))
	for range 5000 {
		b := wantBlock(byChance(r))
		b[r.Intn(256)] ^= 1 << r.Intn(8)
		if n, e := inode.Unpack(b); e == api.OK {
			if back, e := inode.Pack(n); e != api.OK || !bytes.Equal(back, b) {
				t.Fatalf("P11.4: Unpack(%x) is %v, whose block is %x, %v", b, n, back, e)
			}
		}
		c := wantList(listByChance(r))
		c[r.Intn(256)] ^= 1 << r.Intn(8)
		if l, e := inode.UnpackList(c); e == api.OK {
			if back, e := inode.PackList(l); e != api.OK || !bytes.Equal(back, c) {
				t.Fatalf("P11.4: UnpackList(%x) is %v, whose block is %x, %v", c, l, back, e)
			}
		}
	}
}

func TestUnpackChangesNothing(t *testing.T) {
	for _, first := range []byte{0, 1, 2, 3, 4, 255} {
		room := bytes.Repeat([]byte{0xaa}, 512)
		copy(room, wantBlock(mixed()))
		room[0] = first
		was := append([]byte(nil), room...)
		inode.Unpack(room[:256])
		inode.UnpackList(room[:256])
		inode.Unpack(room[:255])
		inode.UnpackList(room[:255])
		if !bytes.Equal(room, was) {
			t.Fatalf("rule 3: Unpack has changed what it was handed: %x, not %x", room, was)
		}
	}
}
