package inode_test

import (
	"bytes"
	"encoding/hex"
	"math"
	"math/rand"
	"testing"

	"oubliette/api"
	"oubliette/inode"
)

func TestBlockByteByByte(t *testing.T) {
	fields := "02" + "1101" + "10111213" + "14151617" + "1819" + "1a1b0000" + "2021222324252627" + "28292a2b" + "2c00" + "30313233" +
		"4000410042004300440045004600470048004900" + "4a004b004c004d004e004f00" + "f000"
	want, _ := hex.DecodeString(fields)
	want = append(want, make([]byte, 256-endAt)...)
	if len(want) != 256 {
		t.Fatalf("the test's block has %d bytes", len(want))
	}
	b, e := inode.Pack(mixed())
	if e != api.OK || !bytes.Equal(b, want) {
		t.Fatalf("P11.1: Pack(%v): %x, %v; not %x", mixed(), b, e, want)
	}
	unpacks(t, want, mixed())
}

// change: an inode whose field is another one.
type change struct {
	why string
	do  func(n *api.Inode)
}

// numbers: a field of ints at some values.
func numbers(name string, at func(n *api.Inode) *int, values ...int) []change {
	var out []change
	for _, v := range values {
		out = append(out, change{name, func(n *api.Inode) { *at(n) = v }})
	}
	return out
}

// slotAt: one of an inode's slots, or the list at 16.
func slotAt(k int) func(n *api.Inode) *int {
	return func(n *api.Inode) *int {
		if k == 16 {
			return &n.List
		}
		return &n.Slots[k]
	}
}

func kindOf(n *api.Inode) *int   { return &n.Kind }
func modeOf(n *api.Inode) *int   { return &n.Mode }
func linksOf(n *api.Inode) *int  { return &n.Links }
func sizeOf(n *api.Inode) *int   { return &n.Size }
func parentOf(n *api.Inode) *int { return &n.Parent }

// rights: changes after which an inode that may be may be still.
func rights() []change {
	out := numbers("Kind", kindOf, 1, 2, 3)
	out = append(out, numbers("Mode", modeOf, 0, 1, 0o7, 0o70, 0o377, 0o400, 0o644, 0o776, 0o777)...)
	out = append(out, numbers("Links", linksOf, 0, 1, 8, 255, 256, 32767, 32768)...)
	out = append(out, numbers("Size", sizeOf, 0, 1, 255, 256, 257, 32767, 32768)...)
	out = append(out, numbers("Parent", parentOf, 0, 1, 63, 64)...)
	for k := range 17 {
		out = append(out, numbers("Slots", slotAt(k), 0, 1, 127, 128, 254, 255)...)
	}
	for _, v := range []uint32{0, 1, 255, 256, 1 << 16, 1 << 24, 1 << 31, 1<<32 - 1} {
		out = append(out,
			change{"Uid", func(n *api.Inode) { n.Uid = v }}, change{"Gid", func(n *api.Inode) { n.Gid = v }},
			change{"Version", func(n *api.Inode) { n.Version = v }}, change{"Cookie", func(n *api.Inode) { n.Cookie = v }})
	}
	for _, v := range []uint64{1, 255, 256, 1 << 31, 1 << 32, 1 << 63, 1<<64 - 1} {
		out = append(out, change{"Serial", func(n *api.Inode) { n.Serial = v }})
	}
	return out
}

// wrongs: changes after which no inode may be; among them numbers whose last bytes alone would do.
func wrongs() []change {
	out := numbers("Kind", kindOf, 0, 4, 5, 128, 255, 256, 257, -1, -255, math.MinInt, math.MaxInt)
	out = append(out, numbers("Mode", modeOf, -1, 0o1000, 0o1001, 0o1777, 0o4755, 65535, 65536, 65536+0o644, 1<<32, math.MinInt, math.MaxInt)...)
	for _, at := range []func(n *api.Inode) *int{linksOf, sizeOf} {
		out = append(out, numbers("Links, Size", at, -1, -32768, 32769, 65535, 65536, 65537, 1<<32, 1<<32+1, math.MinInt, math.MaxInt)...)
	}
	out = append(out, change{"Serial", func(n *api.Inode) { n.Serial = 0 }})
	out = append(out, numbers("Parent", parentOf, -1, -64, 65, 255, 256, 65536, 65537, math.MinInt, math.MaxInt)...)
	for k := range 17 {
		out = append(out, numbers("Slots", slotAt(k), -1, -256, 256, 257, 65535, 65536, 65537, math.MinInt, math.MaxInt)...)
	}
	return out
}

func TestPackEdges(t *testing.T) {
	for _, n := range bases() {
		packs(t, n)
		for _, c := range rights() {
			m := n
			c.do(&m)
			packs(t, m)
		}
	}
}

func TestPackWrong(t *testing.T) {
	noInode(t, "no inode at all", api.Inode{})
	for _, n := range bases() {
		for _, c := range wrongs() {
			m := n
			c.do(&m)
			noInode(t, c.why, m)
		}
	}
}

func TestPackWrongBesideOthers(t *testing.T) {
	r := rand.New(rand.NewSource(11))
	all := append(rights(), wrongs()...)
	for range 20000 {
		n := byChance(r)
		for range 1 + r.Intn(3) {
			all[r.Intn(len(all))].do(&n)
		}
		if mayBe(n) {
			packs(t, n)
		} else {
			noInode(t, "by chance", n)
		}
	}
}

// Each field of ints at each number from some below 0 to some above MaxFile.
func TestEachNumber(t *testing.T) {
	for v := -300; v <= 33100; v++ {
		for _, at := range []func(n *api.Inode) *int{kindOf, modeOf, linksOf, sizeOf, parentOf, slotAt(0), slotAt(15), slotAt(16)} {
			n := mixed()
			*at(&n) = v
			if b, e := inode.Pack(n); mayBe(n) != (e == api.OK) || e != api.OK && (e != api.ErrArg || len(b) != 0) {
				t.Fatalf("P11.1: Pack(%v): %x, %v", n, b, e)
			}
		}
	}
}

func TestPackNewMemory(t *testing.T) {
	for _, n := range bases() {
		first, _ := inode.Pack(n)
		for k := range first {
			first[k] = 0xff
		}
		packs(t, n)
	}
	l := list{1, 2, 3}
	first, _ := inode.PackList(l)
	for k := range first {
		first[k] = 0xff
	}
	packsList(t, l)
}

func TestOneBlockEach(t *testing.T) {
	whose := map[string]api.Inode{}
	for _, n := range bases() {
		for _, c := range append(rights(), change{"as it is", func(*api.Inode) {}}) {
			m := n
			c.do(&m)
			b, _ := inode.Pack(m)
			if had, ok := whose[string(b)]; ok && had != m {
				t.Fatalf("P11.4: %v and %v have one block, %x", had, m, b)
			}
			whose[string(b)] = m
		}
	}
}
