package ops

import (
	"math"

	"oubliette/api"
	"oubliette/dir"
	"oubliette/grant"
)

// up: the name of a directory's parent.
const up = ".."

// step: the node to which a name leads from another one. NotDir, Access, NoEnt.
func (d *doing) step(n *node, name string) (*node, api.Errno) {
	switch {
	case !n.isDir():
		return nil, api.NotDir
	case !d.may(n, toSearch):
		return nil, api.Access
	case name == up && n.orphan():
		return nil, api.NoEnt
	case name == up:
		return d.parent(n), api.OK
	}
	next := d.entry(n, name)
	if next == nil {
		return nil, api.NoEnt
	}
	return next, api.OK
}

// walk: the nodes that the names lead to, one from the other.
func (d *doing) walk() api.Res {
	n := d.at(d.op.Ref)
	res := d.told(n)
	for k, name := range d.op.Names {
		next, e := d.step(n, name)
		refuse(k == 0 && e != api.OK, e)
		if e != api.OK {
			break
		}
		n = next
		res.Attrs = append(res.Attrs, d.attr(n))
	}
	return res
}

// span: Inval, if a beginning or a length is below 0.
func (d *doing) span() { refuse(d.op.Off < 0 || d.op.Count < 0, api.Inval) }

// bytes: a file's bytes.
func (d *doing) bytes() api.Res {
	n := d.file()
	d.span()
	return api.Res{Data: d.Read(n.Inode, d.op.Off, d.op.Count)}
}

// list: a directory's entries behind a cookie, as many as have room.
func (d *doing) list() api.Res {
	n := d.dir(d.op.Ref)
	d.span()
	l := d.entries(n)
	if uint64(d.op.Off) > math.MaxUint32 {
		return api.Res{}
	}
	return api.Res{Entries: dir.Told(l, uint32(d.op.Off), d.op.Count)}
}

// readlink: a symbolic link's text.
func (d *doing) readlink() api.Res {
	n := d.at(d.op.Ref)
	refuse(!n.isLink(), api.Inval)
	return api.Res{Data: d.Read(n.Inode, 0, n.Size)}
}

// statfs: how much room there is.
func (d *doing) statfs() api.Res {
	s := d.Super()
	return api.Res{Slots: d.slots, Free: d.slots - grant.Count(s), Spare: api.MaxInodes - grant.Inodes(s)}
}
