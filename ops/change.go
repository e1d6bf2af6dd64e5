package ops

import (
	"oubliette/api"
	"oubliette/perm"
)

// cutFlag: the flag by which a file that is opened is cut to nothing.
const cutFlag = 512

// file: the file that Ref names. Stale, IsDir, Inval.
func (d *doing) file() *node {
	n := d.at(d.op.Ref)
	refuse(n.isDir(), api.IsDir)
	refuse(n.isLink(), api.Inval)
	return n
}

// wants: what an open with these flags wants. Inval.
func (d *doing) wants() int {
	want, e := perm.Wants(d.op.Flags)
	pass(e)
	return want
}

// sets: whether a change has that among what it changes.
func (d *doing) sets(what int) bool { return d.op.Set.Valid&what != 0 }

// changeMayBe: Inval, if the change may not be.
func (d *doing) changeMayBe() {
	s := d.op.Set
	refuse(s.Valid < 0 || s.Valid > api.SetMode|api.SetUid|api.SetGid|api.SetSize, api.Inval)
	refuse(d.sets(api.SetMode) && !modeMayBe(s.Mode), api.Inval)
	refuse(d.sets(api.SetSize) && s.Size < 0, api.Inval)
}

// owner: Perm, if what only an owner may change is changed by another one, or given to whom only the user 0 may give it.
func (d *doing) owner(n *node) {
	s, uid := d.op.Set, d.op.Uid
	refuse(d.sets(api.SetMode|api.SetUid|api.SetGid) && !perm.Owns(n.Inode, uid), api.Perm)
	refuse(d.sets(api.SetUid) && uid != 0 && s.Uid != n.Uid, api.Perm)
	refuse(d.sets(api.SetGid) && uid != 0 && s.Gid != n.Gid && s.Gid != d.op.Gid, api.Perm)
}

// resizes: what is told of another size. IsDir, Inval, Access, FBig.
func (d *doing) resizes(n *node) {
	refuse(n.isDir(), api.IsDir)
	refuse(n.isLink(), api.Inval)
	refuse(!d.may(n, toWrite), api.Access)
	refuse(d.op.Set.Size > api.MaxFile, api.FBig)
}

// change: what the change sets is so.
func (d *doing) change() api.Res {
	n, s := d.at(d.op.Ref), d.op.Set
	d.changeMayBe()
	d.owner(n)
	if d.sets(api.SetSize) {
		d.resizes(n)
		n.Inode = d.Cut(n.Inode, s.Size)
	}
	if d.sets(api.SetMode) {
		n.Mode = s.Mode
	}
	if d.sets(api.SetUid) {
		n.Uid = s.Uid
	}
	if d.sets(api.SetGid) {
		n.Gid = s.Gid
	}
	if s.Valid != 0 {
		n.Version++
	}
	return d.told(n)
}

// open: a node is opened, and cut to nothing, if the flags say so.
func (d *doing) open() api.Res {
	n := d.at(d.op.Ref)
	want := d.wants()
	refuse(n.isLink(), api.Loop)
	refuse(n.isDir() && want&toWrite != 0, api.IsDir)
	refuse(!d.may(n, want), api.Access)
	if d.op.Flags&cutFlag != 0 {
		n.Inode = d.Cut(n.Inode, 0)
		n.Version++
	}
	return d.told(n)
}

// fill: the bytes are a node's from a place on. NoSpace.
func (d *doing) fill(n *node, off int, b []byte) {
	d.fits(d.Needs(n.Inode, off, len(b)))
	n.Inode = d.Write(n.Inode, off, b)
}

// write: the bytes are there.
func (d *doing) write() api.Res {
	n := d.file()
	off, b := d.op.Off, d.op.Data
	refuse(off < 0, api.Inval)
	refuse(off > api.MaxFile-len(b), api.FBig)
	d.room(d.Needs(n.Inode, off, len(b)))
	if len(b) > 0 {
		d.fill(n, off, b)
		n.Version++
	}
	return api.Res{Count: len(b)}
}
