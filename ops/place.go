package ops

import (
	"oubliette/api"
	"oubliette/dir"
	"oubliette/inode"
)

// What is wanted is a sum of these.
const (
	toSearch = 1
	toWrite  = 2
)

// dir: the directory that a name names. Stale, NotDir.
func (d *doing) dir(r api.Ref) *node {
	n := d.at(r)
	refuse(!n.isDir(), api.NotDir)
	return n
}

// live: the directory that a name names, where another one may be given. Stale, NotDir, NoEnt.
func (d *doing) live(r api.Ref) *node {
	n := d.dir(r)
	refuse(n.orphan(), api.NoEnt)
	return n
}

// access: Access, if a directory's names may not be changed.
func (d *doing) access(in *node) { refuse(!d.may(in, toWrite|toSearch), api.Access) }

// entries: a directory's entries. IO, also where a slot holds more or less than a leaf has: the desk tells a block all the same.
func (d *doing) entries(in *node) []api.Entry {
	for _, slot := range d.Slots(in.Inode) {
		refuse(slot != 0 && len(d.See(slot)) != api.BlockLen, api.IO)
	}
	l, e := dir.List(d.Desk, in.Inode)
	pass(e)
	return l
}

// entry: the node that has a name in a directory, nil if none has. IO, where an entry names another node than there is.
func (d *doing) entry(in *node, name string) *node {
	e, ok := dir.Find(d.entries(in), name)
	if !ok {
		return nil
	}
	n := d.number(e.Ref.Ino)
	refuse(n == nil || n.ref() != e.Ref || n.Kind != e.Kind, api.IO)
	return n
}

// parent: the directory in which a directory is named. IO, where there is none.
func (d *doing) parent(n *node) *node {
	above := d.number(n.Parent)
	refuse(above == nil || !above.isDir(), api.IO)
	return above
}

// filled: whether a node is a directory with entries.
func (d *doing) filled(n *node) bool { return n.isDir() && len(d.entries(n)) > 0 }

// full: MLink, if a directory has as many names as may be.
func (d *doing) full(in *node) {
	refuse(len(d.entries(in)) >= api.MaxEntries, api.MLink)
}

// put: a directory's entries are these. NoSpace; IO, where they may not be.
func (d *doing) put(in *node, l []api.Entry) {
	leaves, e := dir.Leaves(l)
	refuse(e != api.OK, api.IO)
	d.fits(len(leaves) - inode.Blocks(in.Size))
	in.Inode = dir.Put(d.Desk, in.Inode, l)
}

// give: a name is given in a directory to a node; the entry of what had it goes.
func (d *doing) give(in *node, name string, n *node) {
	in.Cookie++
	d.put(in, dir.With(d.entries(in), api.Entry{Name: name, Ref: n.ref(), Kind: n.Kind, Cookie: in.Cookie}))
}

// strike: a name's entry goes.
func (d *doing) strike(in *node, name string) {
	d.put(in, dir.Without(d.entries(in), name))
}
