package plain

import (
	"oubliette/api"
	"oubliette/dir"
	"oubliette/perm"
	"oubliette/wire"
)

// What is wanted is a sum of these.
const (
	toSearch = 1
	toWrite  = 2
)

// place is a node that an operation names, and a name there: who asks, and what has that name (nil: nothing).
type place struct {
	uid, gid uint32
	node     *api.Node
	name     string
	found    *api.Node
}

// entry: the node that has a name in a directory, nil if none has.
func (f *FS) entry(in *api.Node, name string) *api.Node {
	e, ok := dir.Find(in.Entries, name)
	if !ok {
		return nil
	}
	return f.at(e.Ref)
}

// placed: the place of a node and a name.
func (f *FS) placed(o api.Op, r api.Ref, name string) place {
	p := place{uid: o.Uid, gid: o.Gid, node: f.at(r), name: name}
	if p.node != nil {
		p.found = f.entry(p.node, name)
	}
	return p
}

// owned: what says who may do what with a node.
func owned(n *api.Node) api.Inode {
	return api.Inode{Mode: n.Attr.Mode, Uid: n.Attr.Uid, Gid: n.Attr.Gid}
}

// may: whether all that is wanted is allowed.
func (p *place) may(want int) bool { return perm.May(owned(p.node), p.uid, p.gid, want) }

// when: an error where that holds.
func when(holds bool, e api.Errno) api.Errno {
	if holds {
		return e
	}
	return api.OK
}

// stale: Stale, if there is no such node.
func (p *place) stale() api.Errno { return when(p.node == nil, api.Stale) }

// dir: Stale; NotDir, if it is no directory.
func (p *place) dir() api.Errno {
	if e := p.stale(); e != api.OK {
		return e
	}
	return when(!isDir(p.node), api.NotDir)
}

// live: NoEnt, if it is an orphan.
func (p *place) live() api.Errno { return when(orphan(p.node), api.NoEnt) }

// named: Inval or NameLong, if the name may not be.
func (p *place) named() api.Errno { return wire.Name(p.name) }

// searches: Access, if searching isn't allowed.
func (p *place) searches() api.Errno { return when(!p.may(toSearch), api.Access) }

// access: Access, if writing and searching aren't allowed.
func (p *place) access() api.Errno { return when(!p.may(toWrite|toSearch), api.Access) }

// taken: Exist, if there is such a name.
func (p *place) taken() api.Errno { return when(p.found != nil, api.Exist) }

// missing: NoEnt, if there is no such name.
func (p *place) missing() api.Errno { return when(p.found == nil, api.NoEnt) }

// full: MLink, if there are as many names as may be.
func (p *place) full() api.Errno {
	return when(len(p.node.Entries) >= api.MaxEntries, api.MLink)
}

// noDir: IsDir of a directory.
func (p *place) noDir() api.Errno { return when(isDir(p.node), api.IsDir) }

// noLink: Inval of a symbolic link.
func (p *place) noLink() api.Errno { return when(isLink(p.node), api.Inval) }

// writes: Access, if writing isn't allowed.
func (p *place) writes() api.Errno { return when(!p.may(toWrite), api.Access) }
