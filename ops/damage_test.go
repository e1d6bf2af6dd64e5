package ops_test

import (
	"bytes"
	"fmt"
	"maps"
	"slices"
	"testing"

	"oubliette/api"
	"oubliette/dir"
	"oubliette/grant"
	"oubliette/inode"
	"oubliette/ops"
)

// small is a sound volume of few nodes of each kind, whose slots are known one by one.
type small struct {
	*pair
	d, e, f, g, l api.Ref    // directories, e in d; files, g with names in d alone; a symbolic link
	orphans       [2]api.Ref // a file and a directory
	inodes        []int      // the slots of inodes
	leaves        map[int]int
	lists         []int
}

// newSmall: such a volume.
func newSmall(t testing.TB) *small {
	x := &small{pair: begin(t, 40), leaves: map[int]int{}}
	x.d, x.f, x.l = x.mkdir(rootRef, "d"), x.create(rootRef, "f"), x.symlink(rootRef, "l", "to")
	x.write(x.f, 5, "ahead")
	x.write(x.f, 17*256, "behind")
	x.g = x.create(x.d, long(31)+"0")
	for _, c := range "123" {
		x.link(x.d, long(31)+string(c), x.g)
	}
	x.create(x.d, long(31)+"4")
	x.e = x.mkdir(x.d, "e")
	x.orphans = [2]api.Ref{x.create(rootRef, "of"), x.mkdir(rootRef, "od")}
	x.write(x.orphans[0], 16*256, "held")
	x.unlink(rootRef, "of", 0, x.orphans[0])
	x.unlink(rootRef, "od", 512, x.orphans[1])
	for _, slot := range x.super().Inodes {
		if slot != 0 {
			x.inodes = append(x.inodes, slot)
			x.look(slot)
		}
	}
	return x
}

// super: the volume's super.
func (x *small) super() api.Super {
	x.t.Helper()
	s, e := grant.Unpack(x.v[0])
	if e != api.OK {
		x.t.Fatalf("P17.1: slot 0: %x", x.v[0])
	}
	return s
}

// inode: the inode that a slot holds.
func (x *small) inode(slot int) api.Inode {
	x.t.Helper()
	n, e := inode.Unpack(x.v[slot])
	if e != api.OK {
		x.t.Fatalf("P17.1: slot %d: %x", slot, x.v[slot])
	}
	return n
}

// look: which slots an inode's are: a directory's leaves, and lists.
func (x *small) look(slot int) {
	n := x.inode(slot)
	if n.List != 0 {
		x.lists = append(x.lists, n.List)
	}
	for _, leaf := range n.Slots {
		if n.Kind == api.Dir && leaf != 0 {
			x.leaves[leaf] = slot
		}
	}
}

// structure: the slots of all that isn't a file's bytes.
func (x *small) structure() []int {
	return slices.Concat([]int{0}, x.inodes, slices.Sorted(maps.Keys(x.leaves)), x.lists)
}

// asks: operations of each kind, by which all of the volume is come to.
func (x *small) asks() []api.Op {
	data := []byte("some")
	attrs := api.Change{Valid: 15, Mode: 0o600, Uid: 5, Gid: 7, Size: 10}
	held := []api.Ref{x.f, x.g, x.l, x.e}
	name := long(31) + "1"
	return []api.Op{
		{Kind: api.OpRoot}, {Kind: api.OpStatfs}, {Kind: api.OpSync}, {Kind: api.OpReclaim}, {}, {Kind: 20},
		{Kind: api.OpWalk, Ref: rootRef, Names: []string{"d", name}}, {Kind: api.OpWalk, Ref: x.e, Names: []string{"..", "..", "l"}},
		{Kind: api.OpWalk, Ref: rootRef, Names: []string{"d", "none"}}, {Kind: api.OpWalk, Ref: x.f},
		{Kind: api.OpStat, Ref: x.f}, {Kind: api.OpStat, Ref: x.d}, {Kind: api.OpStat, Ref: x.l}, {Kind: api.OpStat, Ref: x.orphans[0]},
		{Kind: api.OpChange, Ref: x.f, Set: attrs}, {Kind: api.OpChange, Ref: x.f, Set: api.Change{Valid: 8, Size: 17*256 + 2}},
		{Kind: api.OpChange, Ref: x.d, Set: api.Change{Valid: 7, Mode: 0o700}}, {Kind: api.OpChange, Ref: x.f, Set: api.Change{Valid: 8, Size: 32768}},
		{Kind: api.OpOpen, Ref: x.f, Flags: 514}, {Kind: api.OpOpen, Uid: 9, Ref: x.d}, {Kind: api.OpOpen, Ref: x.orphans[0], Flags: 2},
		{Kind: api.OpCreate, Ref: rootRef, Name: "x", Mode: 0o600}, {Kind: api.OpCreate, Ref: x.d, Name: "x"}, {Kind: api.OpCreate, Ref: x.e, Name: "x"},
		{Kind: api.OpMkdir, Ref: x.d, Name: "x", Mode: 0o700}, {Kind: api.OpSymlink, Ref: x.e, Name: "x", Data: data},
		{Kind: api.OpLink, Ref: rootRef, Name: "x", Ref2: x.g}, {Kind: api.OpLink, Ref: x.d, Name: "x", Ref2: x.f}, {Kind: api.OpLink, Ref: x.d, Name: "x", Ref2: x.orphans[0]},
		{Kind: api.OpUnlink, Ref: rootRef, Name: "f"}, {Kind: api.OpUnlink, Ref: rootRef, Name: "f", Held: held}, {Kind: api.OpUnlink, Ref: x.d, Name: name},
		{Kind: api.OpUnlink, Ref: x.d, Name: "e", Flags: 512}, {Kind: api.OpUnlink, Ref: rootRef, Name: "d", Flags: 512},
		{Kind: api.OpRename, Ref: rootRef, Name: "f", Ref2: rootRef, Name2: "x"}, {Kind: api.OpRename, Ref: rootRef, Name: "f", Ref2: x.d, Name2: "x"},
		{Kind: api.OpRename, Ref: x.d, Name: name, Ref2: rootRef, Name2: "f"}, {Kind: api.OpRename, Ref: x.d, Name: "e", Ref2: rootRef, Name2: "x"},
		{Kind: api.OpRename, Ref: rootRef, Name: "d", Ref2: x.e, Name2: "x"}, {Kind: api.OpRename, Ref: rootRef, Name: "l", Ref2: x.d, Name2: name, Held: held},
		{Kind: api.OpRename, Ref: x.d, Name: name, Ref2: x.d, Name2: long(31) + "2"}, {Kind: api.OpRename, Ref: rootRef, Name: "f", Ref2: x.e, Name2: "x"},
		{Kind: api.OpRead, Ref: x.f, Count: 1 << 40}, {Kind: api.OpRead, Ref: x.f, Count: 9},
		{Kind: api.OpWrite, Ref: x.f, Data: data}, {Kind: api.OpWrite, Ref: x.f, Off: 18*256 - 2, Data: data}, {Kind: api.OpWrite, Ref: x.g, Off: 4095, Data: data}, {Kind: api.OpWrite, Ref: x.f, Off: 700, Data: data},
		{Kind: api.OpList, Ref: x.d, Count: 1000}, {Kind: api.OpList, Ref: rootRef, Off: 2, Count: 1000}, {Kind: api.OpReadlink, Ref: x.l},
		{Kind: api.OpRelease, Refs: x.orphans[:]}, {Kind: api.OpRelease, Refs: x.orphans[:1], Held: x.orphans[1:]},
	}
}

// seen is what Do answers, and which slots it came to.
type seen struct {
	answer
	slots map[int]bool
}

// ended: what Do answers over a volume, however damaged it is: it comes to its end, in its form, and what the source told stays.
func (v volume) ended(t testing.TB, slots int, o api.Op) seen {
	t.Helper()
	was := v.copied()
	a := seen{slots: map[int]bool{}}
	h := handed(o)
	a.answer = do(func(slot int) ([]byte, bool) {
		a.slots[slot] = true
		return v.get(slot)
	}, slots, h)
	if !a.ok || a.slot != 0 {
		t.Fatalf("P17.3: %s: %v", opText(o), a.answer)
	}
	a.inForm(t, opText(o))
	if !maps.EqualFunc(v, was, bytes.Equal) || !asItWas(h, o) {
		t.Fatalf("P17.3: %s: what was handed in isn't as it was", opText(o))
	}
	return a
}

// imaged: what Image answers over a volume, and which slots it came to.
func (v volume) imaged(t testing.TB, slots int) (api.Image, api.Errno, map[int]bool) {
	t.Helper()
	asked := map[int]bool{}
	i, e, slot, ok := ops.Image(func(slot int) ([]byte, bool) {
		asked[slot] = true
		return v.get(slot)
	}, slots)
	if !ok || slot != 0 || e != api.OK && (i.Serial != 0 || len(i.Nodes) > 0) {
		t.Fatalf("P17.3: Image: %d nodes, %d, %d, %v", len(i.Nodes), e, slot, ok)
	}
	return i, e, asked
}

// bad: of a volume that differs from the small one in one slot: whether that slot's block can't be what it should be.
func (x *small) bad(v volume, slot int) bool {
	if dirSlot, ok := x.leaves[slot]; ok {
		return !readable(v, x.inode(dirSlot))
	}
	if slices.Contains(x.lists, slot) {
		_, e := inode.UnpackList(v[slot])
		return e != api.OK && len(v[slot]) > 0
	}
	if !slices.Contains(x.inodes, slot) {
		return false
	}
	_, e := inode.Unpack(v[slot])
	return e != api.OK
}

// readable: whether a directory's blocks are a list's leaves.
func readable(v volume, n api.Inode) bool {
	var leaves [][]byte
	for _, slot := range n.Slots {
		if slot != 0 {
			leaves = append(leaves, v[slot])
		}
	}
	_, e := dir.Parse(leaves)
	return e == api.OK
}

// over: the operations that come to a slot, and Image, over a volume that differs from the small one in that slot: they are IO, if it can't be what it should be; a slot 0 that is no super's counts as bytes 0.
func (x *small) over(t testing.TB, v volume, slot int, asks []api.Op, good []seen) {
	t.Helper()
	_, e := grant.Unpack(v[0])
	none, bad := e != api.OK, x.bad(v, slot)
	for k, o := range asks {
		if !good[k].slots[slot] {
			continue
		}
		a := v.ended(t, x.slots, o)
		switch {
		case none:
			if b := do(volume{}.get, x.slots, o); !a.same(b) {
				t.Fatalf("P17.3: %s without a super: %v; not %v", opText(o), a.answer, b)
			}
		case bad && a.res.Code != api.IO:
			t.Fatalf("P17.3: %s, which comes to slot %d, %x: %v", opText(o), slot, v[slot], a.answer)
		}
	}
	i, e, asked := v.imaged(t, x.slots)
	switch {
	case none && (e != api.OK || i.Serial != 1 || len(i.Nodes) > 0):
		t.Fatalf("P17.4: Image without a super: %+v, %d", i, e)
	case !none && bad && asked[slot] && e != api.IO:
		t.Fatalf("P17.4: Image, which comes to slot %d, %x: %d", slot, v[slot], e)
	}
}

// good: what the operations answer over the small volume itself.
func (x *small) good(t testing.TB, asks []api.Op) []seen {
	var l []seen
	for _, o := range asks {
		l = append(l, x.v.ended(t, x.slots, o))
	}
	return l
}

// TestTurned: each byte of each slot that isn't a file's bytes is turned.
func TestTurned(t *testing.T) {
	x := newSmall(t)
	asks := x.asks()
	good := x.good(t, asks)
	for _, slot := range x.structure() {
		t.Run(fmt.Sprint(slot), func(t *testing.T) {
			t.Parallel()
			for at := range 256 {
				v := maps.Clone(x.v)
				v[slot] = bytes.Clone(x.v[slot])
				v[slot][at] ^= []byte{1, 0x80, 0xff, 2, 0x10}[at%5]
				x.over(t, v, slot, asks, good)
			}
		})
	}
}

// TestOtherBlocks: each slot that isn't a file's bytes holds another slot's block, bytes 0, none, or a block of another length.
func TestOtherBlocks(t *testing.T) {
	x := newSmall(t)
	asks := x.asks()
	good := x.good(t, asks)
	for _, slot := range x.structure() {
		t.Run(fmt.Sprint(slot), func(t *testing.T) {
			t.Parallel()
			was := x.v[slot]
			others := [][]byte{nil, {}, {1}, make([]byte, 256), bytes.Repeat([]byte{0xff}, 256), was[:255], append(bytes.Clone(was), 0), append(bytes.Clone(was), was...)}
			for other, b := range x.v {
				if other != slot {
					others = append(others, b)
				}
			}
			for _, b := range others {
				v := maps.Clone(x.v)
				v[slot] = b
				x.over(t, v, slot, asks, good)
			}
		})
	}
}
