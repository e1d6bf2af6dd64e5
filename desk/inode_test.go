package desk_test

import (
	"fmt"
	"testing"

	"oubliette/api"
	"oubliette/desk"
	"oubliette/grant"
	"oubliette/inode"
)

// full: a volume with all inodes that there may be, each of them another one.
func full(t *testing.T) (volume, []api.Ref) {
	t.Helper()
	v := dirty(256)
	out, _ := v.do(t, 256, func(d *desk.Desk) []any {
		var refs []any
		for k := range api.MaxInodes {
			n := file()
			n.Uid = uint32(100 + k)
			r, e := d.Make(n)
			if e != api.OK {
				t.Fatalf("P13.3: Make: %v", e)
			}
			refs = append(refs, r)
		}
		d.Save()
		return refs
	})
	var refs []api.Ref
	for _, r := range out {
		refs = append(refs, r.(api.Ref))
	}
	return v, refs
}

// get: what Get answers, over a volume of 256 slots.
func (v volume) get(t *testing.T, r api.Ref) (api.Inode, api.Errno) {
	t.Helper()
	out, changes := v.do(t, 256, func(d *desk.Desk) []any {
		n, e := d.Get(r)
		return []any{n, e}
	})
	isPuts(t, "P13.2: Get", changes)
	return out[0].(api.Inode), out[1].(api.Errno)
}

// isGot: Get answers this inode; isNot: this error, and no inode.
func (v volume) isGot(t *testing.T, r api.Ref, want api.Inode) {
	t.Helper()
	n, e := v.get(t, r)
	same(t, fmt.Sprintf("P13.2: Get %v", r), []any{n, e}, []any{want, api.OK})
}

func (v volume) isNot(t *testing.T, r api.Ref, want api.Errno) {
	t.Helper()
	n, e := v.get(t, r)
	same(t, fmt.Sprintf("P13.2: Get %v", r), []any{n, e}, []any{api.Inode{}, want})
}

func TestGetEach(t *testing.T) {
	v, refs := full(t)
	for k, r := range refs {
		same(t, "P13.3: the name", r, api.Ref{Ino: k + 1, Serial: uint64(k + 1)})
		n := file()
		n.Uid, n.Serial = uint32(100+k), uint64(k+1)
		v.isGot(t, r, n)
		for _, serial := range []uint64{0, r.Serial - 1, r.Serial + 1, 1<<64 - 1} {
			v.isNot(t, api.Ref{Ino: r.Ino, Serial: serial}, api.Stale)
		}
	}
	for _, ino := range append(odd(), 0, -64, 65, 256, 257, 1<<32+1) {
		for _, serial := range []uint64{0, 1, 64} {
			v.isNot(t, api.Ref{Ino: ino, Serial: serial}, api.Stale)
		}
	}
}

func TestGetOfNone(t *testing.T) {
	v := volume{}
	for ino := range 66 {
		v.isNot(t, api.Ref{Ino: ino, Serial: 1}, api.Stale)
		v.isNot(t, api.Ref{Ino: ino}, api.Stale)
	}
}

func TestGetOfDropped(t *testing.T) {
	v, refs := full(t)
	for _, ino := range []int{1, 30, 64} {
		v.do(t, 256, func(d *desk.Desk) []any {
			d.Drop(ino)
			d.Save()
			return nil
		})
		v.isNot(t, refs[ino-1], api.Stale)
		out, _ := v.do(t, 256, func(d *desk.Desk) []any {
			r, e := d.Make(file())
			d.Save()
			return []any{r, e}
		})
		r := out[0].(api.Ref)
		if r.Ino != ino || r.Serial <= 64 || out[1] != api.OK {
			t.Fatalf("P13.3: Make of a number again: %v", out)
		}
		v.isNot(t, refs[ino-1], api.Stale)
		n := file()
		n.Serial = r.Serial
		v.isGot(t, r, n)
	}
}

// TestGetOfNoInode: each byte of the block at other values.
func TestGetOfNoInode(t *testing.T) {
	v := volume{}
	r, _ := v.made(t, 256, map[int][]byte{0: text(1, 5000)})
	at := v.super(t).Inodes[r.Ino]
	b := v[at]
	for k := range b {
		for _, x := range []byte{0, 1, 2, 0x7f, 0x80, 0xfe, 0xff} {
			turned := append([]byte(nil), b...)
			turned[k] ^= x
			v[at] = turned
			n, e := inode.Unpack(turned)
			switch {
			case e != api.OK:
				v.isNot(t, r, api.IO)
			case n.Serial != r.Serial:
				v.isNot(t, r, api.Stale)
			default:
				v.isGot(t, r, n)
			}
		}
	}
	for _, other := range [][]byte{nil, {}, make([]byte, 256), b[:255], append(b[:256:256], 0), b[:1], block(1)} {
		v[at] = other
		v.isNot(t, r, api.IO)
		v.isNot(t, api.Ref{Ino: r.Ino, Serial: 99}, api.IO)
		v.isNot(t, api.Ref{Ino: r.Ino + 1, Serial: r.Serial}, api.Stale)
	}
}

func TestSet(t *testing.T) {
	v, refs := full(t)
	for _, ino := range []int{1, 2, 64} {
		n := api.Inode{Kind: api.Dir, Mode: 0o700, Links: 3, Size: 99, Serial: refs[ino-1].Serial, Version: 8, Parent: 2, Cookie: 5}
		n.Slots[3] = 200
		_, changes := v.do(t, 256, func(d *desk.Desk) []any {
			d.Set(ino, n)
			got, e := d.Get(refs[ino-1])
			return []any{got, e}
		})
		isPuts(t, "P13.2: Set", changes, v.super(t).Inodes[ino], packed(t, n))
		v.isGot(t, refs[ino-1], n)
		other := n
		other.Serial = 500
		v.do(t, 256, func(d *desk.Desk) []any {
			d.Set(ino, other)
			return nil
		})
		v.isNot(t, refs[ino-1], api.Stale)
		v.isGot(t, api.Ref{Ino: ino, Serial: 500}, other)
	}
}

func TestSetOfNone(t *testing.T) {
	n := file()
	n.Serial = 1
	v, _ := full(t)
	for _, x := range []volume{{}, v} {
		for _, ino := range append(odd(), 0, 65, -1, 256) {
			_, changes := x.do(t, 256, func(d *desk.Desk) []any {
				d.Set(ino, n)
				d.Save()
				return nil
			})
			isPuts(t, "P13.2: Set of no inode", changes)
		}
	}
	for ino := range 66 {
		_, changes := volume{}.do(t, 256, func(d *desk.Desk) []any {
			d.Set(ino, n)
			return nil
		})
		isPuts(t, "P13.2: Set of no inode", changes)
	}
}

// TestSetOfWhatMayNotBe: it has no block, so the inode stays.
func TestSetOfWhatMayNotBe(t *testing.T) {
	v := volume{}
	r, n := v.made(t, 256, nil)
	for _, bad := range []api.Inode{{}, {Kind: 4, Serial: 1}, {Kind: 1}, {Kind: 1, Serial: 1, Size: -1}} {
		_, changes := v.do(t, 256, func(d *desk.Desk) []any {
			d.Set(r.Ino, bad)
			return nil
		})
		isPuts(t, "P13.2: Set of what may not be", changes)
	}
	v.isGot(t, r, n)
}

// TestMake: of the first one, and of many: the least number and the least slot, the super's serial, and the block.
func TestMake(t *testing.T) {
	for _, serial := range []uint64{1, 2, 1 << 32, 1<<64 - 3} {
		v := dirty(256)
		s := grant.New()
		s.Serial = serial
		s.Used[2], s.Used[4] = true, true
		v[0] = packedSuper(t, s)
		free := []int{1, 3, 5}
		for k := range 2 {
			n := file()
			n.Serial, n.Size = 12345, k
			out, changes := v.do(t, 256, func(d *desk.Desk) []any {
				r, e := d.Make(n)
				s := d.Super()
				d.Save()
				return []any{r, e, s}
			})
			r := api.Ref{Ino: k + 1, Serial: serial + uint64(k)}
			s.Serial++
			s.Used[free[k]] = true
			s.Inodes[k+1] = free[k]
			same(t, "P13.3: Make", out, []any{r, api.OK, s})
			n.Serial = r.Serial
			isPuts(t, "P13.3: Make", changes, 0, packedSuper(t, s), free[k], packed(t, n))
			v.isGot(t, r, n)
		}
	}
}

func TestMakeNoFile(t *testing.T) {
	v, refs := full(t)
	was := v.super(t)
	for _, slots := range []int{256, 65, 0, -1, 1 << 40} {
		out, changes := v.do(t, slots, func(d *desk.Desk) []any {
			r, e := d.Make(file())
			s := d.Super()
			d.Save()
			return []any{r, e, s}
		})
		same(t, "P13.3: Make of one too many", out, []any{api.Ref{}, api.NoFile, was})
		isPuts(t, "P13.3: Make of one too many", changes)
	}
	if v.used(t) != 65 || len(refs) != 64 {
		t.Fatalf("P13.3: %d slots", v.used(t))
	}
}

func TestMakeNoSpace(t *testing.T) {
	for _, slots := range []int{-5, 0, 1, 2, 3, 16, 64} {
		v := dirty(256)
		for k := range max(slots-1, 0) {
			if r, _ := v.made(t, slots, nil); r.Ino != k+1 {
				t.Fatalf("P13.3: inode %d of %d slots: %v", k+1, slots, r)
			}
		}
		was := v.super(t)
		out, changes := v.do(t, slots, func(d *desk.Desk) []any {
			r, e := d.Make(file())
			s := d.Super()
			d.Save()
			return []any{r, e, s}
		})
		same(t, "P13.3: Make without room", out, []any{api.Ref{}, api.NoSpace, was})
		isPuts(t, "P13.3: Make without room", changes)
	}
}

// TestMakeLast: files have all slots but one, in whatever place it is.
func TestMakeLast(t *testing.T) {
	for _, at := range []int{1, 100, 255} {
		s := grant.New()
		for slot := range s.Used {
			s.Used[slot] = slot != at
		}
		v := volume{0: packedSuper(t, s)}
		out, _ := v.do(t, 1000, func(d *desk.Desk) []any {
			r, e := d.Make(file())
			_, e2 := d.Make(file())
			return []any{r, e, e2, d.Super().Inodes[1], d.Super().Serial}
		})
		same(t, "P13.3: the last slot", out, []any{api.Ref{Ino: 1, Serial: 1}, api.OK, api.NoSpace, at, uint64(2)})
	}
}

// TestMakeOfWhatMayNotBe: it has a name, but no block, whatever its slot held.
func TestMakeOfWhatMayNotBe(t *testing.T) {
	v := volume{}
	n := file()
	n.Serial = 1
	v[1] = packed(t, n)
	out, changes := v.do(t, 256, func(d *desk.Desk) []any {
		r, e := d.Make(api.Inode{Kind: 9})
		_, got := d.Get(r)
		return []any{r, e, got}
	})
	same(t, "P13.3: Make", out, []any{api.Ref{Ino: 1, Serial: 1}, api.OK, api.IO})
	isPuts(t, "P13.3: Make", changes, 1, nothing)
}

func TestDrop(t *testing.T) {
	holes := volume{}
	_, onlyHoles := holes.made(t, 256, nil)
	onlyHoles.Size = 32768
	holes.do(t, 256, func(d *desk.Desk) []any {
		d.Set(1, onlyHoles)
		return nil
	})
	for what, parts := range map[string]map[int][]byte{
		"nothing":    nil,
		"holes":      nil,
		"a block":    {0: text(1, 1)},
		"two blocks": {300: text(1, 256)},
		"apart":      {0: text(1, 1), 4095: text(2, 1)},
		"a list":     {4096: text(1, 1)},
		"both":       {0: text(1, 5000), 32767: text(2, 1)},
		"all":        {0: text(1, 32768)},
	} {
		v := dirty(256)
		before, _ := v.made(t, 256, map[int][]byte{100: text(5, 300), 4000: text(6, 200)})
		var r api.Ref
		var n api.Inode
		if what == "holes" {
			v = holes.copied()
			r, n = api.Ref{Ino: 1, Serial: 1}, onlyHoles
		} else {
			r, n = v.made(t, 256, parts)
		}
		was := v.super(t)
		var want []any
		for slot := 1; slot < 256; slot++ {
			s := v.slotsOf(n)
			for _, mine := range append(s[:], n.List, was.Inodes[r.Ino]) {
				if mine == slot {
					want = append(want, slot, nothing)
					was.Used[slot] = false
				}
			}
		}
		was.Inodes[r.Ino] = 0
		x := v.copied()
		_, changes := x.do(t, 256, func(d *desk.Desk) []any {
			d.Drop(r.Ino)
			_, e := d.Get(r)
			return []any{e}
		})
		isPuts(t, "P13.3: Drop of "+what, changes, want...)
		out, _ := v.do(t, 256, func(d *desk.Desk) []any {
			d.Drop(r.Ino)
			_, e := d.Get(r)
			s := d.Super()
			d.Save()
			return []any{e, s}
		})
		same(t, "P13.3: Drop of "+what, out, []any{api.Stale, was})
		same(t, "P13.3: Drop of "+what, v.super(t), was)
		v.sound(t)
		if what != "holes" {
			if _, e := v.get(t, before); e != api.OK {
				t.Fatalf("P13.3: Drop of %s took another one: %v", what, e)
			}
		}
	}
}

// TestDropOrphan: an inode that isn't there is no orphan.
func TestDropOrphan(t *testing.T) {
	v := volume{}
	r, _ := v.made(t, 256, nil)
	v.do(t, 256, func(d *desk.Desk) []any {
		s := d.Super()
		s.Orphans[r.Ino] = true
		d.SetSuper(s)
		d.Save()
		return nil
	})
	v.do(t, 256, func(d *desk.Desk) []any {
		d.Drop(r.Ino)
		d.Save()
		return nil
	})
	want := grant.New()
	want.Serial = 2
	same(t, "P13.3: Drop of an orphan", v.super(t), want)
}

func TestDropOfNone(t *testing.T) {
	v, _ := full(t)
	v.do(t, 256, func(d *desk.Desk) []any {
		d.Drop(7)
		d.Save()
		return nil
	})
	for _, ino := range append(odd(), 0, 7, 65, 256) {
		was := v.super(t)
		out, changes := v.do(t, 256, func(d *desk.Desk) []any {
			d.Drop(ino)
			s := d.Super()
			d.Save()
			return []any{s}
		})
		same(t, "P13.3: Drop of no inode", out, []any{was})
		isPuts(t, "P13.3: Drop of no inode", changes)
	}
}

// TestDropOfNoInode: of a block that is none's there is no file; its slot isn't used any more.
func TestDropOfNoInode(t *testing.T) {
	for _, b := range [][]byte{nil, make([]byte, 256), block(1), text(3, 10)} {
		v := volume{}
		r, _ := v.made(t, 256, map[int][]byte{0: text(1, 300)})
		was := v.super(t)
		at := was.Inodes[r.Ino]
		v[at] = b
		out, changes := v.do(t, 256, func(d *desk.Desk) []any {
			d.Drop(r.Ino)
			return []any{d.Super()}
		})
		was.Inodes[r.Ino], was.Used[at] = 0, false
		same(t, "P13.3: Drop", out, []any{was})
		isPuts(t, "P13.3: Drop", changes, at, nothing)
	}
}
