package ops

import (
	"oubliette/api"
	"oubliette/wire"
)

// removeDir: the flag by which a name that is taken away is a directory's.
const removeDir = 512

// unlinks: what is told where a node can't lose its name by these flags. IsDir, NotEmpty, NotDir.
func (d *doing) unlinks(n *node) {
	refuse(n.isDir() && d.op.Flags == 0, api.IsDir)
	refuse(d.filled(n), api.NotEmpty)
	refuse(!n.isDir() && d.op.Flags == removeDir, api.NotDir)
}

// unlink: a name is taken away.
func (d *doing) unlink() api.Res {
	in := d.dir(d.op.Ref)
	pass(wire.Name(d.op.Name))
	refuse(d.op.Flags != 0 && d.op.Flags != removeDir, api.Inval)
	d.access(in)
	n := d.entry(in, d.op.Name)
	refuse(n == nil, api.NoEnt)
	d.unlinks(n)
	d.strike(in, d.op.Name)
	in.Version++
	d.loses(n)
	return api.Res{}
}

// within: whether a directory is another one, or lies below it. IO, where its parents don't lead to the root.
func (d *doing) within(in, top *node) bool {
	// No way up is longer than there are nodes: one that is runs in a ring.
	for range api.MaxInodes {
		if in == top || in.ino == root {
			return in == top
		}
		in = d.parent(in)
	}
	panic(api.IO)
}

// replaces: what is told where a node can't have a name that is another one's. NotDir, IsDir, NotEmpty.
func (d *doing) replaces(n, other *node) {
	refuse(n.isDir() && !other.isDir(), api.NotDir)
	refuse(!n.isDir() && other.isDir(), api.IsDir)
	refuse(d.filled(other), api.NotEmpty)
}

// rename: a node has the other name in place of the one.
func (d *doing) rename() api.Res {
	in, to := d.dir(d.op.Ref), d.live(d.op.Ref2)
	pass(wire.Name(d.op.Name))
	pass(wire.Name(d.op.Name2))
	d.access(in)
	d.access(to)
	n := d.entry(in, d.op.Name)
	refuse(n == nil, api.NoEnt)
	refuse(n.isDir() && d.within(to, n), api.Inval)
	other := d.entry(to, d.op.Name2)
	switch {
	case other == n:
		return d.told(n)
	case other != nil:
		d.replaces(n, other)
	case in != to:
		d.full(to)
	}
	d.room(roomToName)
	d.move(in, to, n, other)
	return d.told(n)
}

// move: a node of a directory has the other name, in the same one or in another; what had that (nil: nothing) loses it.
func (d *doing) move(in, to, n, other *node) {
	if other != nil {
		d.loses(other)
	}
	d.strike(in, d.op.Name)
	d.give(to, d.op.Name2, n)
	if n.isDir() {
		n.Parent = to.ino
	}
	in.Version++
	if to != in {
		to.Version++
	}
	n.Version++
}
