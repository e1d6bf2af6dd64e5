package plain

import (
	"math"

	"oubliette/api"
	"oubliette/dir"
)

// linkMode: the mode of a symbolic link.
const linkMode = 0o777

// cutFlag: the flag by which a file that is opened is cut to nothing.
const cutFlag = 512

// up: the name of a directory's parent.
const up = ".."

// done: an operation of which no error was told is done.
func (d *doing) done() api.Res {
	n := d.from.node
	switch d.Kind {
	case api.OpRoot:
		return told(d.nodes[root])
	case api.OpWalk:
		return d.walk()
	case api.OpStat:
		return told(n)
	case api.OpChange:
		return d.alter()
	case api.OpOpen:
		return d.open()
	case api.OpCreate:
		return told(d.made(api.File, d.Mode))
	case api.OpMkdir:
		return told(d.made(api.Dir, d.Mode))
	case api.OpSymlink:
		return d.symlink()
	case api.OpLink:
		return d.link()
	case api.OpUnlink:
		return d.unlink()
	case api.OpRename:
		return d.rename()
	case api.OpRead:
		return api.Res{Data: bytesAt(n, d.Off, d.Count)}
	case api.OpWrite:
		return d.write()
	case api.OpList:
		return d.list()
	case api.OpReadlink:
		return api.Res{Data: bytesAt(n, 0, n.Attr.Size)}
	case api.OpStatfs:
		return api.Res{Slots: d.slots, Free: d.slots - d.Footprint(), Spare: d.spare()}
	case api.OpRelease:
		return d.release()
	case api.OpReclaim:
		return d.reclaim()
	case api.OpSync:
		return api.Res{}
	}
	return api.Res{Code: api.NotSupp}
}

// next: the node that a name leads to from another one, nil if there is none.
func (d *doing) next(n *api.Node, name string) *api.Node {
	switch {
	case name != up:
		return d.entry(n, name)
	case orphan(n):
		return nil
	}
	return d.number(n.Parent)
}

// walk: the nodes that the names lead to, one from the other.
func (d *doing) walk() api.Res {
	r := told(d.from.node)
	n := d.from.node
	for k, name := range d.Names {
		p := place{uid: d.Uid, gid: d.Gid, node: n, name: name, found: d.next(n, name)}
		e := first([]check{p.dir, p.searches, p.missing})
		switch {
		case e != api.OK && k == 0:
			return api.Res{Code: e}
		case e != api.OK:
			return r
		}
		n = p.found
		r.Attrs = append(r.Attrs, n.Attr)
	}
	return r
}

// alter: what a change sets is so.
func (d *doing) alter() api.Res {
	n := d.from.node
	if d.sets(api.SetMode) {
		n.Attr.Mode = d.Set.Mode
	}
	if d.sets(api.SetUid) {
		n.Attr.Uid = d.Set.Uid
	}
	if d.sets(api.SetGid) {
		n.Attr.Gid = d.Set.Gid
	}
	if d.sets(api.SetSize) {
		cut(n, d.Set.Size)
	}
	if d.Set.Valid != 0 {
		changed(n)
	}
	return told(n)
}

// open: a node is opened, and cut to nothing, if the flags say so.
func (d *doing) open() api.Res {
	n := d.from.node
	if d.Flags&cutFlag != 0 {
		cut(n, 0)
		changed(n)
	}
	return told(n)
}

// made: a node is made and has the name.
func (d *doing) made(kind, mode int) *api.Node {
	in := d.from.node
	n := api.Node{Attr: api.Attr{Kind: kind, Mode: mode, Uid: d.Uid, Gid: d.Gid}}
	if kind == api.Dir {
		n.Parent = in.Attr.Ref.Ino
	}
	there := d.add(n)
	give(in, d.Name, there)
	changed(in)
	return there
}

// symlink: a symbolic link is made.
func (d *doing) symlink() api.Res {
	n := d.made(api.Symlink, linkMode)
	fill(n, 0, d.Data)
	return told(n)
}

// link: a node has a name more.
func (d *doing) link() api.Res {
	in, n := d.from.node, d.to.node
	give(in, d.Name, n)
	n.Attr.Links++
	changed(in)
	changed(n)
	return told(n)
}

// loses: a node loses a name.
func (d *doing) loses(n *api.Node) {
	n.Attr.Links--
	changed(n)
	if orphan(n) && !among(d.Held, n) {
		d.forget(func(m *api.Node) bool { return m == n })
	}
}

// unlink: a name is taken away.
func (d *doing) unlink() api.Res {
	strike(d.from.node, d.Name)
	changed(d.from.node)
	d.loses(d.from.found)
	return api.Res{}
}

// rename: a node has the other name in place of the one.
func (d *doing) rename() api.Res {
	in, other, n := d.from.node, d.to.node, d.from.found
	if d.same() {
		return told(n)
	}
	if d.to.found != nil {
		d.loses(d.to.found)
	}
	strike(in, d.Name)
	give(other, d.Name2, n)
	if isDir(n) {
		n.Parent = other.Attr.Ref.Ino
	}
	changed(in)
	if other != in {
		changed(other)
	}
	changed(n)
	return told(n)
}

// write: the bytes are there.
func (d *doing) write() api.Res {
	n := d.from.node
	fill(n, d.Off, d.Data)
	if len(d.Data) > 0 {
		changed(n)
	}
	return api.Res{Count: len(d.Data)}
}

// list: the entries behind a cookie, as many as have room.
func (d *doing) list() api.Res {
	if uint64(d.Off) > math.MaxUint32 {
		return api.Res{}
	}
	return api.Res{Entries: dir.Told(d.from.node.Entries, uint32(d.Off), d.Count)}
}

// release: orphans that were held are there no more, but for those that are held yet.
func (d *doing) release() api.Res {
	d.forget(func(n *api.Node) bool {
		return orphan(n) && among(d.Refs, n) && !among(d.Held, n)
	})
	return api.Res{}
}

// reclaim: all orphans are there no more.
func (d *doing) reclaim() api.Res {
	d.forget(orphan)
	return api.Res{}
}
