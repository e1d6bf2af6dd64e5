package plain_test

import (
	"sort"

	"oubliette/api"
)

// do: an operation is done.
func (m *model) do(o api.Op) api.Res {
	for _, f := range m.faults(o) {
		if f.holds {
			return api.Res{Code: f.code}
		}
	}
	n := m.at(o.Ref)
	switch o.Kind {
	case api.OpRoot:
		return api.Res{Attr: m.things[1].attr()}
	case api.OpStat:
		return api.Res{Attr: n.attr()}
	case api.OpWalk:
		return m.walk(o, n)
	case api.OpRead:
		return api.Res{Data: piece(n.bytes, o.Off, o.Count)}
	case api.OpList:
		return api.Res{Entries: m.told(n, o.Off, o.Count)}
	case api.OpReadlink:
		return api.Res{Data: append([]byte(nil), n.bytes...)}
	case api.OpStatfs:
		return api.Res{Slots: m.slots, Free: m.slots - m.footprint(), Spare: 64 - len(m.things)}
	}
	return m.alter(o, n, m.at(o.Ref2))
}

// alter: an operation that changes something is done.
func (m *model) alter(o api.Op, n, q *thing) api.Res {
	switch o.Kind {
	case api.OpChange:
		return m.change(o, n)
	case api.OpOpen:
		if o.Flags >= 512 {
			n.resize(0)
			n.version++
		}
		return api.Res{Attr: n.attr()}
	case api.OpCreate:
		return m.make(o, n, api.File, o.Mode, nil)
	case api.OpMkdir:
		return m.make(o, n, api.Dir, o.Mode, nil)
	case api.OpSymlink:
		return m.make(o, n, api.Symlink, 0o777, o.Data)
	case api.OpLink:
		m.give(n, o.Name, q)
		q.links++
		n.version++
		q.version++
		return api.Res{Attr: q.attr()}
	case api.OpUnlink:
		k := m.named(n, o.Name)
		n.strike(o.Name)
		n.version++
		m.lose(o, k)
	case api.OpRename:
		return m.rename(o, n, q)
	case api.OpWrite:
		n.write(o.Off, o.Data)
		if len(o.Data) > 0 {
			n.version++
		}
		return api.Res{Count: len(o.Data)}
	case api.OpRelease:
		for _, r := range o.Refs {
			m.sweep(func(n *thing) bool { return n == m.at(r) && !held(o, n) })
		}
	case api.OpReclaim:
		m.sweep(func(*thing) bool { return true })
	}
	return api.Res{}
}

// sweep: orphans of which that holds are there no more.
func (m *model) sweep(goes func(n *thing) bool) {
	for ino := 1; ino <= 64; ino++ {
		if n := m.things[ino]; n != nil && n.links == 0 && goes(n) {
			delete(m.things, ino)
		}
	}
}

// piece: bytes from a place on, so many at most.
func piece(b []byte, off, count int) []byte {
	var out []byte
	for k := off; k < len(b) && k-off < count; k++ {
		out = append(out, b[k])
	}
	return out
}

// held: whether Held names a node.
func held(o api.Op, n *thing) bool {
	for _, r := range o.Held {
		if r.Ino == n.ino && r.Serial == n.serial {
			return true
		}
	}
	return false
}

// resize: a file has so many bytes; no block is made, and there are none behind its end.
func (n *thing) resize(size int) {
	b := make([]byte, size)
	copy(b, n.bytes)
	n.bytes = b
	for k := range n.there {
		if 256*k >= size {
			delete(n.there, k)
		}
	}
}

// write: bytes are there, and the blocks that they come to.
func (n *thing) write(off int, b []byte) {
	if len(b) > 0 && off+len(b) > len(n.bytes) {
		n.resize(off + len(b))
	}
	for k, c := range b {
		n.bytes[off+k] = c
		n.there[(off+k)/256] = true
	}
}

// give: a name is given in a directory to a node.
func (m *model) give(in *thing, name string, n *thing) {
	in.cookie++
	in.names = append(in.names, spot{name, n.ino, in.cookie})
	sort.Slice(in.names, func(i, j int) bool { return in.names[i].name < in.names[j].name })
}

// strike: a name's entry goes.
func (n *thing) strike(name string) {
	for k, s := range n.names {
		if s.name == name {
			n.names = append(n.names[:k:k], n.names[k+1:]...)
			return
		}
	}
}

// lose: a node loses a name.
func (m *model) lose(o api.Op, n *thing) {
	n.links--
	n.version++
	if n.links == 0 && !held(o, n) {
		delete(m.things, n.ino)
	}
}

func (m *model) walk(o api.Op, n *thing) api.Res {
	r := api.Res{Attr: n.attr()}
	for k, name := range o.Names {
		code := api.OK
		next := m.named(n, name)
		if name == ".." {
			next = m.things[n.parent]
		}
		switch {
		case n.kind != api.Dir:
			code = api.NotDir
		case !n.may(o, 1):
			code = api.Access
		case name == ".." && n.links == 0, next == nil:
			code = api.NoEnt
		}
		if code != api.OK && k == 0 {
			return api.Res{Code: code}
		}
		if code != api.OK {
			return r
		}
		r.Attrs = append(r.Attrs, next.attr())
		n = next
	}
	return r
}

func (m *model) change(o api.Op, n *thing) api.Res {
	s := o.Set
	if s.Valid == 0 {
		return api.Res{Attr: n.attr()}
	}
	if s.Valid%2 == 1 {
		n.mode = s.Mode
	}
	if s.Valid/2%2 == 1 {
		n.uid = s.Uid
	}
	if s.Valid/4%2 == 1 {
		n.gid = s.Gid
	}
	if s.Valid/8 == 1 {
		n.resize(s.Size)
	}
	n.version++
	return api.Res{Attr: n.attr()}
}

func (m *model) make(o api.Op, in *thing, kind, mode int, text []byte) api.Res {
	n := &thing{ino: 1, serial: m.serial, kind: kind, mode: mode, uid: o.Uid, gid: o.Gid, links: 1, there: map[int]bool{}}
	for m.things[n.ino] != nil {
		n.ino++
	}
	if kind == api.Dir {
		n.parent = in.ino
	}
	n.write(0, text)
	m.serial++
	m.things[n.ino] = n
	m.give(in, o.Name, n)
	in.version++
	return api.Res{Attr: n.attr()}
}

func (m *model) rename(o api.Op, in, to *thing) api.Res {
	n, other := m.named(in, o.Name), m.named(to, o.Name2)
	if n == other {
		return api.Res{Attr: n.attr()}
	}
	if other != nil {
		to.strike(o.Name2)
		m.lose(o, other)
	}
	in.strike(o.Name)
	m.give(to, o.Name2, n)
	if n.kind == api.Dir {
		n.parent = to.ino
	}
	in.version++
	if to != in {
		to.version++
	}
	n.version++
	return api.Res{Attr: n.attr()}
}

// told: layer 14's Told: by rising cookies, each with 24 bytes and its name's.
func (m *model) told(n *thing, after, room int) []api.Entry {
	l := m.entries(n)
	sort.SliceStable(l, func(i, j int) bool { return l[i].Cookie < l[j].Cookie })
	var out []api.Entry
	for _, e := range l {
		if int(e.Cookie) <= after {
			continue
		}
		room -= 24 + len(e.Name)
		if room < 0 {
			return out
		}
		out = append(out, e)
	}
	return out
}
