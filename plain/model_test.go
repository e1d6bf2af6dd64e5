package plain_test

import (
	"unicode/utf8"

	"oubliette/api"
)

// The chapter's words once more, one by one, as plainly as they can be put: what the tests hold the package against.

// spot is an entry: a name, the number of the node that has it, and the cookie.
type spot struct {
	name   string
	ino    int
	cookie uint32
}

// thing is a node.
type thing struct {
	ino      int
	serial   uint64
	kind     int
	mode     int
	uid, gid uint32
	links    int
	version  uint32
	parent   int
	cookie   uint32
	bytes    []byte       // a file's bytes, or a link's text
	there    map[int]bool // the blocks that there are
	names    []spot       // a directory's entries, by their runes, which for good UTF-8 is by their bytes
}

// model is a state.
type model struct {
	slots  int
	serial uint64
	things map[int]*thing
}

// newModel: a new state.
func newModel(slots int) *model {
	root := &thing{ino: 1, serial: 1, kind: api.Dir, mode: 0o755, links: 1, parent: 1, there: map[int]bool{}}
	return &model{slots: slots, serial: 2, things: map[int]*thing{1: root}}
}

// copied: the state as another one, with so many slots.
func (m *model) copied(slots int) *model {
	c := &model{slots: slots, serial: m.serial, things: map[int]*thing{}}
	for ino, n := range m.things {
		k := *n
		k.bytes = append([]byte(nil), n.bytes...)
		k.there = map[int]bool{}
		for b := range n.there {
			k.there[b] = true
		}
		k.names = append([]spot(nil), n.names...)
		c.things[ino] = &k
	}
	return c
}

// leaves: how many leaves a directory has: 255 bytes of each are for entries, which take 16 bytes and their names.
func (n *thing) leaves() int {
	count, left := 0, 0
	for _, s := range n.names {
		if 16+len(s.name) > left {
			count, left = count+1, 255
		}
		left -= 16 + len(s.name)
	}
	return count
}

// attr: a node's Attr.
func (n *thing) attr() api.Attr {
	a := api.Attr{Ref: api.Ref{Ino: n.ino, Serial: n.serial}, Kind: n.kind, Mode: n.mode, Uid: n.uid, Gid: n.gid, Links: n.links, Version: n.version}
	a.Size, a.Blocks = len(n.bytes), len(n.there)
	if n.kind == api.Dir {
		a.Size, a.Blocks = 256*n.leaves(), n.leaves()
	}
	return a
}

// takes: what a node takes.
func (n *thing) takes() int {
	count := 1 + n.attr().Blocks
	for b := range n.there {
		if b >= 16 {
			return count + 1
		}
	}
	return count
}

// footprint: what all takes.
func (m *model) footprint() int {
	count := 1
	for _, n := range m.things {
		count += n.takes()
	}
	return count
}

// at: the node that a Ref names, or nil.
func (m *model) at(r api.Ref) *thing {
	n := m.things[r.Ino]
	if n == nil || n.serial != r.Serial {
		return nil
	}
	return n
}

// entries: a directory's entries, by the order of layer 14.
func (m *model) entries(n *thing) []api.Entry {
	var l []api.Entry
	for _, s := range n.names {
		k := m.things[s.ino]
		l = append(l, api.Entry{Name: s.name, Ref: api.Ref{Ino: k.ino, Serial: k.serial}, Kind: k.kind, Cookie: s.cookie})
	}
	return l
}

// image: the state's image.
func (m *model) image() api.Image {
	i := api.Image{Serial: m.serial}
	for ino := 1; ino <= 64; ino++ {
		n := m.things[ino]
		if n == nil {
			continue
		}
		k := api.Node{Attr: n.attr(), Parent: n.parent, Cookie: n.cookie, Entries: m.entries(n), Blocks: map[int][]byte{}}
		for b := range n.there {
			k.Blocks[b] = make([]byte, 256)
			copy(k.Blocks[b], n.bytes[256*b:])
		}
		i.Nodes = append(i.Nodes, k)
	}
	return i
}

// may: layer 15's: of nine bits in base eight the owner's, the group's or the others' digit.
func (n *thing) may(o api.Op, want int) bool {
	digit := n.mode % 8
	switch {
	case o.Uid == 0:
		return true
	case o.Uid == n.uid:
		digit = n.mode / 64
	case o.Gid == n.gid:
		digit = n.mode / 8 % 8
	}
	return digit&want == want
}

// wants: layer 15's: what an open wants, 0 of flags that may not be.
func wants(flags int) int {
	return map[int]int{0: 4, 1: 2, 2: 6, 512: 6, 513: 2, 514: 6}[flags]
}

// nameCode: layer 1's Name.
func nameCode(s string) api.Errno {
	if s == "" || s == "." || s == ".." || !utf8.ValidString(s) {
		return api.Inval
	}
	for _, r := range s {
		if r < 0x20 || r == 0x7f || r == '/' {
			return api.Inval
		}
	}
	if len(s) > 32 {
		return api.NameLong
	}
	return api.OK
}

// named: the node that has a name in a directory, or nil.
func (m *model) named(n *thing, name string) *thing {
	if n == nil {
		return nil
	}
	for _, s := range n.names {
		if s.name == name {
			return m.things[s.ino]
		}
	}
	return nil
}

// below: whether a directory is another one, or lies below it.
func (m *model) below(n, top *thing) bool {
	for n != top && n.ino != 1 {
		n = m.things[n.parent]
	}
	return n == top
}

// fault is an error that an operation may tell, and whether there is a reason for it.
type fault struct {
	code  api.Errno
	holds bool
}

// faults: an operation's errors in their order; each is asked for by itself, so that several may hold.
func (m *model) faults(o api.Op) []fault {
	n, q := m.at(o.Ref), m.at(o.Ref2)
	switch o.Kind {
	case api.OpRoot, api.OpStatfs, api.OpRelease, api.OpSync, api.OpReclaim:
		return nil
	case api.OpStat, api.OpWalk:
		return []fault{{api.Stale, n == nil}}
	case api.OpChange:
		return m.changeFaults(o, n)
	case api.OpOpen:
		return m.openFaults(o, n)
	case api.OpCreate, api.OpMkdir, api.OpSymlink:
		return m.makeFaults(o, n)
	case api.OpLink:
		return m.linkFaults(o, n, q)
	case api.OpUnlink:
		return m.unlinkFaults(o, n)
	case api.OpRename:
		return m.renameFaults(o, n, q)
	case api.OpRead:
		return m.bytesFaults(n, o.Off < 0 || o.Count < 0)
	case api.OpWrite:
		return m.writeFaults(o, n)
	case api.OpList:
		return append(m.dirFaults(n), fault{api.Inval, o.Off < 0 || o.Count < 0})
	case api.OpReadlink:
		return []fault{{api.Stale, n == nil}, {api.Inval, n.is(api.File) || n.is(api.Dir)}}
	}
	return []fault{{api.NotSupp, true}}
}

// is: whether there is a node, and it is of a kind.
func (n *thing) is(kind int) bool { return n != nil && n.kind == kind }

// orphan: whether there is a node, and it has no name.
func (n *thing) orphan() bool { return n != nil && n.links == 0 }

// denied: whether there is a node where that isn't allowed.
func (n *thing) denied(o api.Op, want int) bool { return n != nil && !n.may(o, want) }

// dirFaults: Dir.
func (m *model) dirFaults(n *thing) []fault {
	return []fault{{api.Stale, n == nil}, {api.NotDir, n.is(api.File) || n.is(api.Symlink)}}
}

// nameFault: Name.
func nameFault(name string) fault {
	return fault{nameCode(name), nameCode(name) != api.OK}
}

// roomFault: Room.
func (m *model) roomFault(n int) fault {
	return fault{api.NoSpace, m.footprint()+n > m.slots}
}

func (m *model) changeFaults(o api.Op, n *thing) []fault {
	s := o.Set
	mode, uid, gid, size := s.Valid&1 != 0, s.Valid&2 != 0, s.Valid&4 != 0, s.Valid&8 != 0
	wrong := s.Valid < 0 || s.Valid > 15 || mode && (s.Mode < 0 || s.Mode > 0o777) || size && s.Size < 0
	return []fault{
		{api.Stale, n == nil},
		{api.Inval, wrong},
		{api.Perm, n != nil && (mode || uid || gid) && o.Uid != n.uid && o.Uid != 0},
		{api.Perm, n != nil && uid && o.Uid != 0 && s.Uid != n.uid},
		{api.Perm, n != nil && gid && o.Uid != 0 && s.Gid != n.gid && s.Gid != o.Gid},
		{api.IsDir, size && n.is(api.Dir)},
		{api.Inval, size && n.is(api.Symlink)},
		{api.Access, size && n.denied(o, 2)},
		{api.FBig, size && s.Size > 32768},
	}
}

func (m *model) openFaults(o api.Op, n *thing) []fault {
	want := wants(o.Flags)
	return []fault{
		{api.Stale, n == nil},
		{api.Inval, want == 0},
		{api.Loop, n.is(api.Symlink)},
		{api.IsDir, n.is(api.Dir) && want&2 != 0},
		{api.Access, n.denied(o, want)},
	}
}

func (m *model) makeFaults(o api.Op, n *thing) []fault {
	l := append(m.dirFaults(n), fault{api.NoEnt, n.orphan()}, nameFault(o.Name))
	room := 2
	wrongMode := fault{api.Inval, o.Mode < 0 || o.Mode > 0o777}
	switch o.Kind {
	case api.OpCreate:
		l = append(l, fault{api.Inval, wants(o.Flags) == 0}, wrongMode)
	case api.OpMkdir:
		l = append(l, wrongMode)
	case api.OpSymlink:
		l = append(l, fault{api.Inval, len(o.Data) == 0 || len(o.Data) > 256})
		room = 3
	}
	return append(l,
		fault{api.Access, n.denied(o, 3)},
		fault{api.Exist, m.named(n, o.Name) != nil},
		fault{api.MLink, n != nil && len(n.names) >= 32},
		fault{api.NoFile, len(m.things) == 64},
		m.roomFault(room))
}

func (m *model) linkFaults(o api.Op, n, q *thing) []fault {
	return append(m.dirFaults(n),
		fault{api.NoEnt, n.orphan()},
		fault{api.Stale, q == nil},
		nameFault(o.Name),
		fault{api.Perm, q.is(api.Dir)},
		fault{api.Access, n.denied(o, 3)},
		fault{api.Exist, m.named(n, o.Name) != nil},
		fault{api.MLink, n != nil && len(n.names) >= 32 || q != nil && q.links >= 8},
		fault{api.NoEnt, q.orphan()},
		m.roomFault(1))
}

func (m *model) unlinkFaults(o api.Op, n *thing) []fault {
	k := m.named(n, o.Name)
	none := n.is(api.Dir) && k == nil && nameCode(o.Name) == api.OK
	return append(m.dirFaults(n),
		nameFault(o.Name),
		fault{api.Inval, o.Flags != 0 && o.Flags != 512},
		fault{api.Access, n.denied(o, 3)},
		fault{api.NoEnt, none},
		fault{api.IsDir, k.is(api.Dir) && o.Flags == 0},
		fault{api.NotEmpty, k.is(api.Dir) && len(k.names) > 0},
		fault{api.NotDir, (k.is(api.File) || k.is(api.Symlink)) && o.Flags == 512})
}

func (m *model) renameFaults(o api.Op, n, q *thing) []fault {
	k, other := m.named(n, o.Name), m.named(q, o.Name2)
	two := k != nil && other != nil && k != other
	none := n.is(api.Dir) && k == nil && nameCode(o.Name) == api.OK
	l := append(m.dirFaults(n), m.dirFaults(q)...)
	return append(l,
		fault{api.NoEnt, q.orphan()},
		nameFault(o.Name),
		nameFault(o.Name2),
		fault{api.Access, n.denied(o, 3)},
		fault{api.Access, q.denied(o, 3)},
		fault{api.NoEnt, none},
		fault{api.Inval, k.is(api.Dir) && q.is(api.Dir) && !q.orphan() && m.below(q, k)},
		fault{api.NotDir, two && k.is(api.Dir) && !other.is(api.Dir)},
		fault{api.IsDir, two && !k.is(api.Dir) && other.is(api.Dir)},
		fault{api.NotEmpty, two && other.is(api.Dir) && len(other.names) > 0},
		fault{api.MLink, other == nil && q != nil && n != q && len(q.names) >= 32},
		fault{api.NoSpace, (k == nil || k != other) && m.roomFault(1).holds})
}

// bytesFaults: of what has no bytes to be read or written, or numbers that may not be.
func (m *model) bytesFaults(n *thing, wrong bool) []fault {
	return []fault{{api.Stale, n == nil}, {api.IsDir, n.is(api.Dir)}, {api.Inval, n.is(api.Symlink) || wrong}}
}

func (m *model) writeFaults(o api.Op, n *thing) []fault {
	big := o.Off > 32768 || o.Off+len(o.Data) > 32768
	return append(m.bytesFaults(n, o.Off < 0),
		fault{api.FBig, big},
		fault{api.NoSpace, n != nil && m.footprint()+n.more(o.Off, len(o.Data)) > m.slots})
}

// more: how much more a file takes behind a write.
func (n *thing) more(off, count int) int {
	k := thing{kind: n.kind, there: map[int]bool{}}
	for b := range n.there {
		k.there[b] = true
	}
	// Of a write that ends behind MaxFile, or begins ahead of 0, another error is told ahead of this one: the blocks that there may be do.
	for b := range 128 {
		if count > 0 && off < 256*(b+1) && off > 256*b-count {
			k.there[b] = true
		}
	}
	return k.takes() - (&thing{kind: n.kind, there: n.there}).takes()
}
