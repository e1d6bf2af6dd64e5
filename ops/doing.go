package ops

import (
	"oubliette/api"
	"oubliette/desk"
	"oubliette/grant"
	"oubliette/inode"
	"oubliette/perm"
)

// root is the root's number.
const root = 1

// doing is an operation on its way, on the desk: the nodes that it has come to, by their numbers.
type doing struct {
	*desk.Desk
	op    api.Op
	slots int
	nodes [api.MaxInodes + 1]*node
}

// refuse: the operation gives up with an error, where that holds.
func refuse(holds bool, e api.Errno) {
	if holds {
		panic(e)
	}
}

// pass: the operation gives up with what is an error.
func pass(e api.Errno) { refuse(e != api.OK, e) }

// unpacked: the inode that a slot holds. IO, also where its list is none: it would tell of other blocks than there are.
func (d *doing) unpacked(slot int) api.Inode {
	n, e := inode.Unpack(d.See(slot))
	refuse(e != api.OK, api.IO)
	if n.List != 0 {
		_, e = inode.UnpackList(d.See(n.List))
		refuse(e != api.OK, api.IO)
	}
	return n
}

// number: the node with a number, nil if there is none. Each is read once, so that it is one node, however an operation comes to it.
func (d *doing) number(ino int) *node {
	if ino < root || ino > api.MaxInodes {
		return nil
	}
	slot := d.Super().Inodes[ino]
	if slot == 0 {
		return nil
	}
	if d.nodes[ino] == nil {
		n := d.unpacked(slot)
		d.nodes[ino] = &node{Inode: n, ino: ino, was: n}
	}
	return d.nodes[ino]
}

// at: the node that a name names. Stale.
func (d *doing) at(r api.Ref) *node {
	n := d.number(r.Ino)
	refuse(n == nil || n.ref() != r, api.Stale)
	return n
}

// add: a node is made. NoFile, NoSpace.
func (d *doing) add(i api.Inode) *node {
	i.Links = 1
	r, e := d.Make(i)
	pass(e)
	i.Serial = r.Serial
	n := &node{Inode: i, ino: r.Ino, was: i}
	d.nodes[r.Ino] = n
	return n
}

// forget: a node is there no more.
func (d *doing) forget(n *node) {
	d.Drop(n.ino)
	d.nodes[n.ino] = nil
}

// keep: what is another one than it was is put. IO, where no block tells of it: in no sound volume it comes to that.
func (d *doing) keep() {
	for _, n := range d.nodes {
		if n == nil || n.Inode == n.was {
			continue
		}
		_, e := inode.Pack(n.Inode)
		refuse(e != api.OK, api.IO)
		d.Set(n.ino, n.Inode)
	}
	_, e := grant.Pack(d.Super())
	refuse(e != api.OK, api.IO)
	d.Save()
}

// room: NoSpace, if there is no room for so much more.
func (d *doing) room(n int) {
	refuse(grant.Count(d.Super())+n > d.slots, api.NoSpace)
}

// fits: NoSpace, if so many slots can't be taken. Of more slots than a volume has at most, there may be room and yet no slot.
func (d *doing) fits(count int) {
	s := d.Super()
	for range count {
		var e api.Errno
		s, _, e = grant.Take(s, d.slots)
		pass(e)
	}
}

// may: whether all that is wanted with a node is allowed.
func (d *doing) may(n *node, want int) bool {
	return perm.May(n.Inode, d.op.Uid, d.op.Gid, want)
}

// attr: a node's Attr.
func (d *doing) attr(n *node) api.Attr {
	a := api.Attr{Ref: n.ref(), Kind: n.Kind, Mode: n.Mode, Uid: n.Uid, Gid: n.Gid, Links: n.Links, Size: n.Size, Version: n.Version}
	for _, slot := range d.Slots(n.Inode) {
		if slot != 0 {
			a.Blocks++
		}
	}
	return a
}

// told: the answer that is a node's Attr.
func (d *doing) told(n *node) api.Res { return api.Res{Attr: d.attr(n)} }

// done: the operation is done: what it answers.
func (d *doing) done() api.Res {
	switch d.op.Kind {
	case api.OpRoot:
		n := d.number(root)
		refuse(n == nil, api.Stale)
		return d.told(n)
	case api.OpWalk:
		return d.walk()
	case api.OpStat:
		return d.told(d.at(d.op.Ref))
	case api.OpRead:
		return d.bytes()
	case api.OpList:
		return d.list()
	case api.OpReadlink:
		return d.readlink()
	case api.OpStatfs:
		return d.statfs()
	case api.OpSync:
		return api.Res{}
	}
	res := d.altered()
	d.keep()
	return res
}

// altered: an operation that changes something is done, but for keeping what it has come to: what it answers.
func (d *doing) altered() api.Res {
	switch d.op.Kind {
	case api.OpChange:
		return d.change()
	case api.OpOpen:
		return d.open()
	case api.OpCreate:
		return d.create()
	case api.OpMkdir:
		return d.mkdir()
	case api.OpSymlink:
		return d.symlink()
	case api.OpLink:
		return d.link()
	case api.OpUnlink:
		return d.unlink()
	case api.OpRename:
		return d.rename()
	case api.OpWrite:
		return d.write()
	case api.OpRelease:
		return d.release()
	case api.OpReclaim:
		return d.reclaim()
	}
	panic(api.NotSupp)
}
