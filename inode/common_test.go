package inode_test

import (
	"bytes"
	"encoding/binary"
	"math/rand"
	"testing"

	"oubliette/api"
	"oubliette/inode"
)

// Where the parts of an inode's block begin, and where they end; where a list's end.
const (
	kindAt    = 0
	modeAt    = 1
	uidAt     = 3
	gidAt     = 7
	linksAt   = 11
	sizeAt    = 13
	serialAt  = 17
	versionAt = 25
	parentAt  = 29
	cookieAt  = 31
	slotsAt   = 35
	listAt    = 67
	endAt     = 69
	listEndAt = 224
)

type list = [api.Listed]int

// mayBe: sentence by sentence.
func mayBe(n api.Inode) bool {
	if n.Kind != api.File && n.Kind != api.Dir && n.Kind != api.Symlink {
		return false
	}
	if n.Mode < 0 || n.Mode > 511 || n.Links < 0 || n.Links > 32768 || n.Size < 0 || n.Size > 32768 {
		return false
	}
	if n.Serial == 0 || n.Parent < 0 || n.Parent > 64 {
		return false
	}
	for _, slot := range n.Slots {
		if slot < 0 || slot > 255 {
			return false
		}
	}
	return n.List >= 0 && n.List <= 255
}

// wantBlock: an inode's block, written place by place.
func wantBlock(n api.Inode) []byte {
	b := make([]byte, 256)
	b[kindAt] = byte(n.Kind)
	binary.LittleEndian.PutUint16(b[modeAt:], uint16(n.Mode))
	binary.LittleEndian.PutUint32(b[uidAt:], n.Uid)
	binary.LittleEndian.PutUint32(b[gidAt:], n.Gid)
	binary.LittleEndian.PutUint16(b[linksAt:], uint16(n.Links))
	binary.LittleEndian.PutUint32(b[sizeAt:], uint32(n.Size))
	binary.LittleEndian.PutUint64(b[serialAt:], n.Serial)
	binary.LittleEndian.PutUint32(b[versionAt:], n.Version)
	binary.LittleEndian.PutUint16(b[parentAt:], uint16(n.Parent))
	binary.LittleEndian.PutUint32(b[cookieAt:], n.Cookie)
	for k, slot := range n.Slots {
		binary.LittleEndian.PutUint16(b[slotsAt+2*k:], uint16(slot))
	}
	binary.LittleEndian.PutUint16(b[listAt:], uint16(n.List))
	return b
}

// readBlock: the inode that a block is of, read place by place, and whether it is one's.
func readBlock(b []byte) (api.Inode, bool) {
	if len(b) != 256 || !bytes.Equal(b[endAt:], make([]byte, 256-endAt)) {
		return api.Inode{}, false
	}
	n := api.Inode{
		Kind:    int(b[kindAt]),
		Mode:    int(binary.LittleEndian.Uint16(b[modeAt:])),
		Uid:     binary.LittleEndian.Uint32(b[uidAt:]),
		Gid:     binary.LittleEndian.Uint32(b[gidAt:]),
		Links:   int(binary.LittleEndian.Uint16(b[linksAt:])),
		Size:    int(binary.LittleEndian.Uint32(b[sizeAt:])),
		Serial:  binary.LittleEndian.Uint64(b[serialAt:]),
		Version: binary.LittleEndian.Uint32(b[versionAt:]),
		Parent:  int(binary.LittleEndian.Uint16(b[parentAt:])),
		Cookie:  binary.LittleEndian.Uint32(b[cookieAt:]),
		List:    int(binary.LittleEndian.Uint16(b[listAt:])),
	}
	for k := range n.Slots {
		n.Slots[k] = int(binary.LittleEndian.Uint16(b[slotsAt+2*k:]))
	}
	if !mayBe(n) {
		return api.Inode{}, false
	}
	return n, true
}

// wantList: a list's block; readList: the list that a block is of, and whether it is one's.
func wantList(l list) []byte {
	b := make([]byte, 256)
	for k, slot := range l {
		b[2*k] = byte(slot)
	}
	return b
}

func readList(b []byte) (list, bool) {
	if len(b) != 256 {
		return list{}, false
	}
	var l list
	for k, x := range b {
		switch {
		case k >= listEndAt || k%2 == 1:
			if x != 0 {
				return list{}, false
			}
		default:
			l[k/2] = int(x)
		}
	}
	return l, true
}

// set: a copy of bytes, with others from a place on.
func set(b []byte, at int, x ...byte) []byte {
	out := append([]byte(nil), b...)
	copy(out[at:], x)
	return out
}

// packs: an inode has the block that it should have, and the block the inode.
func packs(t *testing.T, n api.Inode) {
	t.Helper()
	b, e := inode.Pack(n)
	if want := wantBlock(n); e != api.OK || !bytes.Equal(b, want) {
		t.Fatalf("P11.1: Pack(%v): %x, %v; not %x", n, b, e, want)
	}
	unpacks(t, b, n)
}

// unpacks: the block is this inode's.
func unpacks(t *testing.T, b []byte, n api.Inode) {
	t.Helper()
	if got, e := inode.Unpack(b); e != api.OK || got != n {
		t.Fatalf("P11.1: Unpack(%x): %v, %v; not %v", b, got, e, n)
	}
}

// noInode: an inode that may not be.
func noInode(t *testing.T, why string, n api.Inode) {
	t.Helper()
	if b, e := inode.Pack(n); e != api.ErrArg || len(b) != 0 {
		t.Fatalf("P11.1: %s: Pack(%v): %x, %v; not ErrArg", why, n, b, e)
	}
}

// noForm: bytes that are no inode's block.
func noForm(t *testing.T, why string, b []byte) {
	t.Helper()
	if n, e := inode.Unpack(b); e != api.ErrForm || n != (api.Inode{}) {
		t.Fatalf("P11.1: %s: Unpack(%x): %v, %v; not ErrForm", why, b, n, e)
	}
}

// reads: the bytes are the block of the inode that they should be, or of none.
func reads(t *testing.T, b []byte) {
	t.Helper()
	if n, ok := readBlock(b); ok {
		unpacks(t, b, n)
	} else {
		noForm(t, "by its places", b)
	}
}

// packsList, unpacksList, noList, noListForm, readsList: likewise, of lists.
func packsList(t *testing.T, l list) {
	t.Helper()
	b, e := inode.PackList(l)
	if want := wantList(l); e != api.OK || !bytes.Equal(b, want) {
		t.Fatalf("P11.2: PackList(%v): %x, %v; not %x", l, b, e, want)
	}
	unpacksList(t, b, l)
}

func unpacksList(t *testing.T, b []byte, l list) {
	t.Helper()
	if got, e := inode.UnpackList(b); e != api.OK || got != l {
		t.Fatalf("P11.2: UnpackList(%x): %v, %v; not %v", b, got, e, l)
	}
}

func noList(t *testing.T, why string, l list) {
	t.Helper()
	if b, e := inode.PackList(l); e != api.ErrArg || len(b) != 0 {
		t.Fatalf("P11.2: %s: PackList(%v): %x, %v; not ErrArg", why, l, b, e)
	}
}

func noListForm(t *testing.T, why string, b []byte) {
	t.Helper()
	if l, e := inode.UnpackList(b); e != api.ErrForm || l != (list{}) {
		t.Fatalf("P11.2: %s: UnpackList(%x): %v, %v; not ErrForm", why, b, l, e)
	}
}

func readsList(t *testing.T, b []byte) {
	t.Helper()
	if l, ok := readList(b); ok {
		unpacksList(t, b, l)
	} else {
		noListForm(t, "by its places", b)
	}
}

// least: an inode all of whose fields are the least that may be.
func least() api.Inode {
	return api.Inode{Kind: api.File, Serial: 1}
}

// greatest: an inode all of whose fields are the greatest that may be.
func greatest() api.Inode {
	n := api.Inode{
		Kind: api.Symlink, Mode: 0o777, Uid: 1<<32 - 1, Gid: 1<<32 - 1, Links: 32768, Size: 32768,
		Serial: 1<<64 - 1, Version: 1<<32 - 1, Parent: 64, Cookie: 1<<32 - 1, List: 255,
	}
	for k := range n.Slots {
		n.Slots[k] = 255
	}
	return n
}

// mixed: an inode no two of whose fields' bytes are the same, as far as may be.
func mixed() api.Inode {
	n := api.Inode{
		Kind: api.Dir, Mode: 0o421, Uid: 0x13121110, Gid: 0x17161514, Links: 0x1918, Size: 0x1b1a,
		Serial: 0x2726252423222120, Version: 0x2b2a2928, Parent: 0x2c, Cookie: 0x33323130, List: 0xf0,
	}
	for k := range n.Slots {
		n.Slots[k] = 0x40 + k
	}
	return n
}

// bases: inodes that may be, from which the tests change field by field.
func bases() []api.Inode {
	return []api.Inode{least(), greatest(), mixed()}
}

// byChance: an inode that may be.
func byChance(r *rand.Rand) api.Inode {
	n := api.Inode{
		Kind: 1 + r.Intn(3), Mode: r.Intn(512), Uid: r.Uint32() >> r.Intn(32), Gid: r.Uint32() >> r.Intn(32),
		Links: r.Intn(32769) >> r.Intn(16), Size: r.Intn(32769) >> r.Intn(16),
		Serial: r.Uint64()>>r.Intn(64) | 1<<r.Intn(64), Version: r.Uint32() >> r.Intn(32),
		Parent: r.Intn(65), Cookie: r.Uint32() >> r.Intn(32), List: r.Intn(256),
	}
	for k := range n.Slots {
		n.Slots[k] = r.Intn(256)
	}
	return n
}

// listByChance: a list that may be, from nearly empty to full.
func listByChance(r *rand.Rand) list {
	var l list
	often := r.Intn(101)
	for k := range l {
		if r.Intn(100) < often {
			l[k] = r.Intn(256)
		}
	}
	return l
}
