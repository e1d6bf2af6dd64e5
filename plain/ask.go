package plain

import (
	"oubliette/api"
	"oubliette/perm"
)

// greatestMode: the greatest mode that may be.
const greatestMode = 0o777

// removeDir: the flag by which a name that is taken away is a directory's.
const removeDir = 512

// check: an error that is asked for, or OK.
type check func() api.Errno

// first: the first error of those that are asked for, or OK.
func first(list []check) api.Errno {
	for _, ask := range list {
		if e := ask(); e != api.OK {
			return e
		}
	}
	return api.OK
}

// doing is an operation on its way, on the state: the places of its Ref and Name, and of its Ref2 and Name2.
type doing struct {
	*FS
	api.Op
	from, to place
}

// begun: an operation that begins.
func begun(f *FS, o api.Op) *doing {
	return &doing{FS: f, Op: o, from: f.placed(o, o.Ref, o.Name), to: f.placed(o, o.Ref2, o.Name2)}
}

// asked: the operation's errors, in their order.
func (d *doing) asked() []check {
	p, q := &d.from, &d.to
	switch d.Kind {
	case api.OpStat, api.OpWalk:
		return []check{p.stale}
	case api.OpChange:
		return []check{p.stale, d.change, d.owner, d.user, d.group, d.resize}
	case api.OpOpen:
		return []check{p.stale, d.flags, d.loop, d.writesDir, d.opens}
	case api.OpCreate:
		return []check{p.dir, p.live, p.named, d.flags, d.mode, p.access, p.taken, p.full, d.noNumber, d.room(2)}
	case api.OpMkdir:
		return []check{p.dir, p.live, p.named, d.mode, p.access, p.taken, p.full, d.noNumber, d.room(2)}
	case api.OpSymlink:
		return []check{p.dir, p.live, p.named, d.text, p.access, p.taken, p.full, d.noNumber, d.room(3)}
	case api.OpLink:
		return []check{p.dir, p.live, q.stale, p.named, d.linksDir, p.access, p.taken, p.full, d.links, q.live, d.room(1)}
	case api.OpUnlink:
		return []check{p.dir, p.named, d.unlinkFlags, p.access, p.missing, d.unlinks}
	case api.OpRename:
		return []check{p.dir, q.dir, q.live, p.named, q.named, p.access, q.access, p.missing, d.below, d.replaces, d.widens, d.moves}
	case api.OpRead:
		return []check{p.stale, p.noDir, p.noLink, d.span}
	case api.OpWrite:
		return []check{p.stale, p.noDir, p.noLink, d.offset, d.great, d.grows}
	case api.OpList:
		return []check{p.dir, d.span}
	case api.OpReadlink:
		return []check{p.stale, d.readsLink}
	}
	return nil
}

// room: NoSpace, if the state has no room for so much more.
func (d *doing) room(n int) check {
	return func() api.Errno { return when(d.Footprint()+n > d.slots, api.NoSpace) }
}

// noNumber: NoFile, if there are as many nodes as may be.
func (d *doing) noNumber() api.Errno { return when(d.free() == 0, api.NoFile) }

// modeMayBe: whether a mode may be.
func modeMayBe(mode int) bool { return mode >= 0 && mode <= greatestMode }

// mode: Inval, if the mode may not be.
func (d *doing) mode() api.Errno { return when(!modeMayBe(d.Mode), api.Inval) }

// flags: Inval, if no open has these flags.
func (d *doing) flags() api.Errno {
	_, e := perm.Wants(d.Flags)
	return e
}

// text: Inval, if a symbolic link can't have the bytes as its text.
func (d *doing) text() api.Errno {
	return when(len(d.Data) < 1 || len(d.Data) > api.BlockLen, api.Inval)
}

// sets: whether a change has that among what it changes.
func (d *doing) sets(what int) bool { return d.Set.Valid&what != 0 }

// change: Inval, if the change may not be.
func (d *doing) change() api.Errno {
	s := d.Set
	return when(s.Valid < 0 || s.Valid > api.SetMode|api.SetUid|api.SetGid|api.SetSize ||
		d.sets(api.SetMode) && !modeMayBe(s.Mode) ||
		d.sets(api.SetSize) && s.Size < 0, api.Inval)
}

// owner: Perm, if what only an owner may change is changed by another one.
func (d *doing) owner() api.Errno {
	owns := perm.Owns(owned(d.from.node), d.Uid)
	return when(d.sets(api.SetMode|api.SetUid|api.SetGid) && !owns, api.Perm)
}

// user: Perm, if somebody else than the user 0 gives a node away.
func (d *doing) user() api.Errno {
	return when(d.sets(api.SetUid) && d.Uid != 0 && d.Set.Uid != d.from.node.Attr.Uid, api.Perm)
}

// group: Perm, if somebody else than the user 0 gives a node to a group that isn't his own.
func (d *doing) group() api.Errno {
	is := d.Set.Gid == d.from.node.Attr.Gid || d.Set.Gid == d.Gid
	return when(d.sets(api.SetGid) && d.Uid != 0 && !is, api.Perm)
}

// resize: what is told of another size.
func (d *doing) resize() api.Errno {
	if !d.sets(api.SetSize) {
		return api.OK
	}
	return first([]check{d.from.noDir, d.from.noLink, d.from.writes, d.greatSize})
}

// greatSize: FBig, if a file would be greater than may be.
func (d *doing) greatSize() api.Errno { return when(d.Set.Size > api.MaxFile, api.FBig) }

// loop: Loop of a symbolic link.
func (d *doing) loop() api.Errno { return when(isLink(d.from.node), api.Loop) }

// wants: what an open wants, whose flags may be.
func (d *doing) wants() int {
	want, _ := perm.Wants(d.Flags)
	return want
}

// writesDir: IsDir of a directory, if writing is wanted.
func (d *doing) writesDir() api.Errno {
	return when(isDir(d.from.node) && d.wants()&toWrite != 0, api.IsDir)
}

// opens: Access, if what is wanted isn't allowed.
func (d *doing) opens() api.Errno { return when(!d.from.may(d.wants()), api.Access) }

// linksDir: Perm, if what is to have a name more is a directory.
func (d *doing) linksDir() api.Errno { return when(isDir(d.to.node), api.Perm) }

// links: MLink, if a node has as many names as may be.
func (d *doing) links() api.Errno {
	return when(d.to.node.Attr.Links >= api.MaxLinks, api.MLink)
}

// unlinkFlags: Inval, if no name is taken away with these flags.
func (d *doing) unlinkFlags() api.Errno {
	return when(d.Flags != 0 && d.Flags != removeDir, api.Inval)
}

// filled: whether a node is a directory with entries.
func filled(n *api.Node) bool { return isDir(n) && len(n.Entries) > 0 }

// unlinks: what is told where the flags are for another kind, or a directory has entries.
func (d *doing) unlinks() api.Errno {
	n := d.from.found
	switch {
	case isDir(n) && d.Flags == 0:
		return api.IsDir
	case filled(n):
		return api.NotEmpty
	case !isDir(n) && d.Flags == removeDir:
		return api.NotDir
	}
	return api.OK
}

// within: whether a directory is another one, or lies below it.
func (d *doing) within(in, top *api.Node) bool {
	// No way up is longer than there are nodes.
	for range api.MaxInodes {
		if in == nil || in == top {
			return in == top
		}
		in = d.number(in.Parent)
	}
	return false
}

// below: Inval, if a directory would lie in itself, or below.
func (d *doing) below() api.Errno {
	n := d.from.found
	return when(isDir(n) && d.within(d.to.node, n), api.Inval)
}

// same: whether the other name is there, and the same node's.
func (d *doing) same() bool { return d.to.found == d.from.found }

// replaces: what is told where the other name is another node's, which can't lose it to this one.
func (d *doing) replaces() api.Errno {
	n, other := d.from.found, d.to.found
	switch {
	case other == nil || d.same():
		return api.OK
	case isDir(n) && !isDir(other):
		return api.NotDir
	case !isDir(n) && isDir(other):
		return api.IsDir
	}
	return when(filled(other), api.NotEmpty)
}

// widens: MLink, if another directory would have a name more than may be.
func (d *doing) widens() api.Errno {
	if d.to.found != nil || d.to.node == d.from.node {
		return api.OK
	}
	return d.to.full()
}

// moves: NoSpace, if a name is given, and there is no room.
func (d *doing) moves() api.Errno {
	if d.same() {
		return api.OK
	}
	return d.room(1)()
}

// span: Inval, if a beginning or a length is below 0.
func (d *doing) span() api.Errno { return when(d.Off < 0 || d.Count < 0, api.Inval) }

// offset: Inval, if a beginning is below 0.
func (d *doing) offset() api.Errno { return when(d.Off < 0, api.Inval) }

// great: FBig, if the bytes would end behind what a file may have.
func (d *doing) great() api.Errno { return when(d.Off > api.MaxFile-len(d.Data), api.FBig) }

// grows: NoSpace, if there is no room for what the file takes more behind it.
func (d *doing) grows() api.Errno {
	behind := cloned(*d.from.node)
	fill(&behind, d.Off, d.Data)
	return d.room(takes(&behind) - takes(d.from.node))()
}

// readsLink: Inval of what is no symbolic link.
func (d *doing) readsLink() api.Errno { return when(!isLink(d.from.node), api.Inval) }
