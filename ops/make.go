package ops

import (
	"oubliette/api"
	"oubliette/grant"
	"oubliette/wire"
)

// What a node is made with.
const (
	greatestMode = 0o777
	linkMode     = 0o777 // of a symbolic link
)

// What there has to be room for: a name's leaf, a node, a symbolic link's text.
const (
	roomToName    = 1
	roomToMake    = roomToName + 1
	roomToSymlink = roomToMake + 1
)

// place: the directory where Name is to be given. Stale, NotDir, NoEnt, and the name's errors.
func (d *doing) place() *node {
	in := d.live(d.op.Ref)
	pass(wire.Name(d.op.Name))
	return in
}

// modeMayBe: whether a mode may be.
func modeMayBe(mode int) bool { return mode >= 0 && mode <= greatestMode }

// mode: Inval, if the mode may not be.
func (d *doing) mode() { refuse(!modeMayBe(d.op.Mode), api.Inval) }

// free: what is told where Name can't be given in a directory. Access, Exist, MLink.
func (d *doing) free(in *node) {
	d.access(in)
	refuse(d.entry(in, d.op.Name) != nil, api.Exist)
	d.full(in)
}

// made: a node is made in a directory, and has the name. Access, Exist, MLink, NoFile, NoSpace.
func (d *doing) made(in *node, kind, mode, room int) *node {
	d.free(in)
	refuse(grant.Inodes(d.Super()) >= api.MaxInodes, api.NoFile)
	d.room(room)
	i := api.Inode{Kind: kind, Mode: mode, Uid: d.op.Uid, Gid: d.op.Gid}
	if kind == api.Dir {
		i.Parent = in.ino
	}
	n := d.add(i)
	d.give(in, d.op.Name, n)
	in.Version++
	return n
}

// create: a file is made.
func (d *doing) create() api.Res {
	in := d.place()
	d.wants()
	d.mode()
	return d.told(d.made(in, api.File, d.op.Mode, roomToMake))
}

// mkdir: a directory is made.
func (d *doing) mkdir() api.Res {
	in := d.place()
	d.mode()
	return d.told(d.made(in, api.Dir, d.op.Mode, roomToMake))
}

// symlink: a symbolic link is made.
func (d *doing) symlink() api.Res {
	in := d.place()
	text := d.op.Data
	refuse(len(text) < 1 || len(text) > api.BlockLen, api.Inval)
	n := d.made(in, api.Symlink, linkMode, roomToSymlink)
	d.fill(n, 0, text)
	return d.told(n)
}

// link: a node has a name more.
func (d *doing) link() api.Res {
	in := d.live(d.op.Ref)
	n := d.at(d.op.Ref2)
	pass(wire.Name(d.op.Name))
	refuse(n.isDir(), api.Perm)
	d.free(in)
	refuse(n.Links >= api.MaxLinks, api.MLink)
	refuse(n.orphan(), api.NoEnt)
	d.room(roomToName)
	d.give(in, d.op.Name, n)
	n.Links++
	in.Version++
	n.Version++
	return d.told(n)
}
