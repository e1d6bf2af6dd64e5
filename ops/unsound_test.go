package ops_test

import (
	"bytes"
	"maps"
	"math"
	"math/rand"
	"os"
	"testing"

	"oubliette/api"
	"oubliette/dir"
	"oubliette/grant"
	"oubliette/inode"
	"oubliette/ops"
	"oubliette/plain"
)

// again: a small volume that is changed by hand; what it is called by stays.
func (x *small) again(t testing.TB) *small {
	y := *x
	y.pair = &pair{t: t, slots: x.slots, v: x.v.copied()}
	return &y
}

// alter: another inode with a number.
func (x *small) alter(r api.Ref, f func(n *api.Inode)) {
	x.t.Helper()
	slot := x.super().Inodes[r.Ino]
	n := x.inode(slot)
	f(&n)
	b, e := inode.Pack(n)
	if e != api.OK {
		x.t.Fatalf("P11.1: %+v", n)
	}
	x.v[slot] = b
}

// grants: another super.
func (x *small) grants(f func(s *api.Super)) {
	x.t.Helper()
	s := x.super()
	f(&s)
	b, e := grant.Pack(s)
	if e != api.OK {
		x.t.Fatalf("P10.1: %+v", s)
	}
	x.v[0] = b
}

// names: another entry of a name in a directory.
func (x *small) names(r api.Ref, name string, f func(e *api.Entry)) {
	x.t.Helper()
	n := x.inode(x.super().Inodes[r.Ino])
	var blocks [][]byte
	for k := range n.Size / 256 {
		blocks = append(blocks, x.v[n.Slots[k]])
	}
	l, _ := dir.Parse(blocks)
	for k := range l {
		if l[k].Name == name {
			f(&l[k])
		}
	}
	leaves, e := dir.Leaves(l)
	if e != api.OK || len(leaves) != len(blocks) {
		x.t.Fatalf("P14.1: %v", l)
	}
	for k, b := range leaves {
		x.v[n.Slots[k]] = b
	}
}

// damage is what makes a sound volume one that isn't.
type damage struct {
	what string
	do   func(x *small)
}

// damages: entries that name what they shouldn't, parents that lead nowhere or in a ring, attributes that don't fit.
func damages() []damage {
	list := []damage{
		{"an entry of a node that isn't", func(x *small) { x.names(rootRef, "f", func(e *api.Entry) { e.Ref.Ino = 60 }) }},
		{"an entry with another serial", func(x *small) { x.names(rootRef, "f", func(e *api.Entry) { e.Ref.Serial = 99 }) }},
		{"an entry of another kind", func(x *small) { x.names(rootRef, "f", func(e *api.Entry) { e.Kind = api.Dir }) }},
		{"an entry of a directory as a file", func(x *small) { x.names(rootRef, "d", func(e *api.Entry) { e.Kind = api.File }) }},
		{"an entry of the root", func(x *small) { x.names(x.d, "e", func(e *api.Entry) { e.Ref = rootRef }) }},
		{"an entry of the directory itself", func(x *small) { x.names(x.d, "e", func(e *api.Entry) { e.Ref = x.d }) }},
		{"two entries of a directory", func(x *small) {
			x.names(rootRef, "f", func(e *api.Entry) { e.Ref, e.Kind = x.e, api.Dir })
		}},
		{"an entry of an orphan", func(x *small) { x.names(rootRef, "f", func(e *api.Entry) { e.Ref = x.orphans[0] }) }},
		{"an entry of an orphaned directory", func(x *small) { x.names(x.d, "e", func(e *api.Entry) { e.Ref = x.orphans[1] }) }},
		{"a cookie that is to come", func(x *small) { x.names(x.d, "e", func(e *api.Entry) { e.Cookie = 7 }) }},
		{"the greatest cookie", func(x *small) { x.names(x.d, "e", func(e *api.Entry) { e.Cookie = math.MaxUint32 }) }},
		{"no cookie left", func(x *small) { x.alter(x.d, func(n *api.Inode) { n.Cookie = math.MaxUint32 }) }},
		{"a ring of parents", func(x *small) { x.alter(x.d, func(n *api.Inode) { n.Parent = x.e.Ino }) }},
		{"a directory as its own parent", func(x *small) { x.alter(x.e, func(n *api.Inode) { n.Parent = x.e.Ino }) }},
		{"no parent", func(x *small) { x.alter(x.d, func(n *api.Inode) { n.Parent = 0 }) }},
		{"a parent that isn't", func(x *small) { x.alter(x.e, func(n *api.Inode) { n.Parent = 64 }) }},
		{"a file as parent", func(x *small) { x.alter(x.e, func(n *api.Inode) { n.Parent = x.f.Ino }) }},
		{"a root below", func(x *small) { x.alter(rootRef, func(n *api.Inode) { n.Parent = x.e.Ino }) }},
		{"a root that is a file", func(x *small) { x.alter(rootRef, func(n *api.Inode) { n.Kind = api.File }) }},
		{"a root with another serial", func(x *small) { x.alter(rootRef, func(n *api.Inode) { n.Serial = 50 }) }},
		{"a file that is a directory", func(x *small) { x.alter(x.f, func(n *api.Inode) { n.Kind = api.Dir }) }},
		{"a directory that is a link", func(x *small) { x.alter(x.d, func(n *api.Inode) { n.Kind = api.Symlink }) }},
		{"a link that is a file", func(x *small) { x.alter(x.l, func(n *api.Inode) { n.Kind = api.File }) }},
		{"a text without bytes", func(x *small) { x.alter(x.l, func(n *api.Inode) { n.Size = 0 }) }},
		{"the longest text", func(x *small) { x.alter(x.l, func(n *api.Inode) { n.Size = 32768 }) }},
		{"the greatest version", func(x *small) { x.alter(x.f, func(n *api.Inode) { n.Version = math.MaxUint32 }) }},
	}
	for _, links := range []int{0, 1, 2, 9, 32768} {
		for _, of := range []func(x *small) api.Ref{of(rootRef), (*small).file, (*small).folder, (*small).empty, (*small).orphan} {
			list = append(list, damage{"other links", func(x *small) { x.alter(of(x), func(n *api.Inode) { n.Links = links }) }})
		}
	}
	for _, size := range []int{0, 1, 255, 256, 300, 512, 768, 8192, 32768} {
		for _, of := range []func(x *small) api.Ref{of(rootRef), (*small).file, (*small).folder, (*small).empty, (*small).orphan} {
			list = append(list, damage{"another size", func(x *small) { x.alter(of(x), func(n *api.Inode) { n.Size = size }) }})
		}
	}
	return list
}

// Some of a small volume's nodes.

func of(r api.Ref) func(x *small) api.Ref { return func(*small) api.Ref { return r } }

func (x *small) file() api.Ref   { return x.f }
func (x *small) folder() api.Ref { return x.d }
func (x *small) empty() api.Ref  { return x.e }
func (x *small) orphan() api.Ref { return x.orphans[0] }

// slotDamages: slots that are shared, used and not said so, or the other way round.
func slotDamages() []damage {
	list := []damage{
		{"no slot is free", func(x *small) {
			x.grants(func(s *api.Super) {
				for k := range s.Used {
					s.Used[k] = true
				}
			})
		}},
		{"files' slots are free", func(x *small) {
			x.grants(func(s *api.Super) {
				clear(s.Used[1:])
				for _, slot := range s.Inodes {
					s.Used[slot] = true
				}
			})
		}},
		{"no serial left", func(x *small) { x.grants(func(s *api.Super) { s.Serial = math.MaxUint64 }) }},
		{"an elder serial", func(x *small) { x.grants(func(s *api.Super) { s.Serial = 1 }) }},
		{"no root", func(x *small) { x.grants(func(s *api.Super) { s.Inodes[1] = 0 }) }},
		{"the root is an orphan", func(x *small) { x.grants(func(s *api.Super) { s.Orphans[1] = true }) }},
		{"a file with a name is an orphan", func(x *small) { x.grants(func(s *api.Super) { s.Orphans[x.f.Ino] = true }) }},
		{"a directory with names is an orphan", func(x *small) { x.grants(func(s *api.Super) { s.Orphans[x.d.Ino] = true }) }},
		{"orphans that aren't told", func(x *small) { x.grants(func(s *api.Super) { clear(s.Orphans[:]) }) }},
		{"two inodes have each other's slot", func(x *small) {
			x.grants(func(s *api.Super) {
				s.Inodes[x.f.Ino], s.Inodes[x.d.Ino] = s.Inodes[x.d.Ino], s.Inodes[x.f.Ino]
			})
		}},
		{"an inode's slot is a leaf's", func(x *small) {
			x.grants(func(s *api.Super) { s.Inodes[60] = x.inode(s.Inodes[x.d.Ino]).Slots[0] })
		}},
		{"all inodes there are", func(x *small) {
			x.grants(func(s *api.Super) {
				for ino := 1; ino <= 64; ino++ {
					if s.Inodes[ino] == 0 {
						s.Inodes[ino], s.Used[100+ino] = 100+ino, true
					}
				}
			})
		}},
	}
	for _, of := range []func(x *small) api.Ref{of(rootRef), (*small).file, (*small).folder, (*small).empty, (*small).orphan} {
		for slot := range 20 {
			list = append(list,
				damage{"another first slot", func(x *small) { x.alter(of(x), func(n *api.Inode) { n.Slots[0] = slot }) }},
				damage{"all slots are one", func(x *small) {
					x.alter(of(x), func(n *api.Inode) {
						for k := range n.Slots {
							n.Slots[k] = slot
						}
					})
				}},
				damage{"another list", func(x *small) { x.alter(of(x), func(n *api.Inode) { n.List = slot }) }})
		}
		for _, slot := range []int{39, 40, 100, 255} {
			list = append(list, damage{"a slot beyond", func(x *small) {
				x.alter(of(x), func(n *api.Inode) { n.Slots[0], n.Slots[15], n.List = slot, slot, slot })
			}})
		}
	}
	return list
}

// TestUnsound: over each damaged volume each operation, and Image, comes to its end, asked with all slots known, and with none known at first.
func TestUnsound(t *testing.T) {
	t.Parallel()
	x := newSmall(t)
	asks := x.asks()
	for k, c := range append(damages(), slotDamages()...) {
		y := x.again(t)
		c.do(y)
		for j, o := range asks {
			for _, slots := range []int{x.slots, 14}[:1+(k+j)%2] {
				a := y.v.ended(t, slots, o)
				if (k+j)%3 > 0 {
					continue
				}
				if b, _ := y.v.again(t, slots, o); !b.same(a.answer) {
					t.Fatalf("P17.5: %s: %s: %v; not %v", c.what, opText(o), b, a.answer)
				}
			}
		}
		y.v.imaged(t, x.slots)
	}
}

// TestUnsoundOn: what is done over a damaged volume is put, and it goes on.
func TestUnsoundOn(t *testing.T) {
	t.Parallel()
	x := newSmall(t)
	all := append(damages(), slotDamages()...)
	image := x.f0()
	for k := range 300 {
		r := newRand(int64(k))
		y := x.again(t)
		damageBy(r, y, all)
		s := &some{Rand: r, image: image}
		for range 40 {
			o := s.next()
			if r.Intn(2) == 0 {
				o = one(r, x.asks())
			}
			y.v.apply(y.v.ended(t, x.slots, o).puts)
			if i, e, _ := y.v.imaged(t, x.slots); e == api.OK && len(i.Nodes) > 0 {
				s.image = i
			}
		}
	}
}

// f0: the image of the small volume as it was made.
func (x *small) f0() api.Image { return x.pair.f.Image() }

// damageBy: one or two of the damages by chance, and sometimes a block with others' bytes.
func damageBy(r *rand.Rand, y *small, all []damage) {
	one(r, all).do(y)
	if r.Intn(2) == 0 {
		slot := r.Intn(20)
		b := bytes.Clone(y.v[slot])
		if len(b) > 0 {
			b[r.Intn(len(b))] ^= byte(1 + r.Intn(255))
		}
		y.v[slot] = b
	}
	if r.Intn(2) == 0 {
		y.v[r.Intn(20)] = bytes.Clone(y.v[r.Intn(20)])
	}
}

// TestNumbersOfSlots: over a sound volume each operation with other numbers of slots than it was made with, as a state with so many answers it; the greatest number leaves nothing without room.
func TestNumbersOfSlots(t *testing.T) {
	x := newSmall(t)
	image := x.f0()
	for _, slots := range []int{0, -1, math.MinInt, 1, 2, 13, math.MaxInt, 1 << 40} {
		for _, o := range x.asks() {
			a := x.v.ended(t, slots, o)
			if want := plain.Load(image, slots).Do(o); !sameRes(a.res, want) {
				t.Fatalf("P17.1: %d slots: %s: %v; not %s", slots, opText(o), a.answer, text(want))
			}
		}
		i, e, _ := x.v.imaged(t, slots)
		if s := differ(i, image); e != api.OK || s != "" {
			t.Fatalf("P17.4: %d slots: Image: %d, %s", slots, e, s)
		}
	}
}

// TestImageWants: Image is asked again and again, each time with the slot that it wanted known.
func TestImageWants(t *testing.T) {
	x := newSmall(t)
	known := map[int]bool{}
	for {
		i, e, slot, ok := ops.Image(func(slot int) ([]byte, bool) { return x.v[slot], known[slot] }, x.slots)
		if ok {
			if s := differ(i, x.f0()); e != api.OK || s != "" || !maps.Equal(known, used(x.super())) {
				t.Fatalf("P17.4: Image: %d, %s, with %v known", e, s, known)
			}
			return
		}
		if e != api.OK || i.Serial != 0 || len(i.Nodes) > 0 || known[slot] {
			t.Fatalf("P17.4: Image with %v known: %+v, %d, %d", known, i, e, slot)
		}
		known[slot] = true
	}
}

// used: the slots that are used.
func used(s api.Super) map[int]bool {
	l := map[int]bool{}
	for slot, is := range s.Used {
		if is {
			l[slot] = true
		}
	}
	return l
}

// TestImageIsNew: what Image answers shares no memory with what the source tells.
func TestImageIsNew(t *testing.T) {
	x := newSmall(t)
	was := x.v.copied()
	i := x.image()
	for _, n := range i.Nodes {
		for _, b := range n.Blocks {
			for k := range b[:cap(b)] {
				b[:cap(b)][k] ^= 0xff
			}
		}
		for k := range n.Entries {
			n.Entries[k] = api.Entry{}
		}
	}
	if !maps.EqualFunc(x.v, was, bytes.Equal) {
		t.Fatal("P17.4: what Image answers is the source's")
	}
	if s := differ(x.image(), x.f0()); s != "" {
		t.Fatalf("P17.4: Image: %s", s)
	}
}

// TestSourcePanics: a panic of the source's own is none of an operation's errors, and goes on.
func TestSourcePanics(t *testing.T) {
	x := newSmall(t)
	for _, own := range []any{"own", 5, os.ErrClosed} {
		for _, f := range []func(get func(int) ([]byte, bool)){
			func(get func(int) ([]byte, bool)) { ops.Do(get, x.slots, api.Op{Kind: api.OpRoot}) },
			func(get func(int) ([]byte, bool)) { ops.Image(get, x.slots) },
		} {
			by := recovered(func() {
				f(func(slot int) ([]byte, bool) {
					if slot == 1 {
						panic(own)
					}
					return x.v.get(slot)
				})
			})
			if by != own {
				t.Fatalf("P12.3: the source's panic is %v, not %v", by, own)
			}
		}
	}
}

// recovered: by what a function panics.
func recovered(f func()) (by any) {
	defer func() { by = recover() }()
	f()
	return nil
}
