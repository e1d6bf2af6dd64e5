package ops

import (
	"slices"

	"oubliette/api"
	"oubliette/grant"
)

// rootMode: the mode of a new root.
const rootMode = 0o755

// held: whether Held names a node.
func (d *doing) held(n *node) bool { return slices.Contains(d.op.Held, n.ref()) }

// mark: the super says that a node is an orphan.
func (d *doing) mark(n *node) {
	s := d.Super()
	s.Orphans[n.ino] = true
	d.SetSuper(s)
}

// loses: a node loses a name.
func (d *doing) loses(n *node) {
	n.Links--
	n.Version++
	switch {
	case !n.orphan():
	case d.held(n):
		d.mark(n)
	default:
		d.forget(n)
	}
}

// orphaned: the orphan that a name names, nil if it names none. What the super doesn't tell as an orphan isn't come to.
func (d *doing) orphaned(r api.Ref) *node {
	if r.Ino < root || r.Ino > api.MaxInodes || !d.Super().Orphans[r.Ino] {
		return nil
	}
	n := d.number(r.Ino)
	if n.ref() != r {
		return nil
	}
	return n
}

// release: orphans that were held are there no more, but for those that are held yet.
func (d *doing) release() api.Res {
	for _, r := range d.op.Refs {
		if n := d.orphaned(r); n != nil && !d.held(n) {
			d.forget(n)
		}
	}
	return api.Res{}
}

// reclaim: all orphans are there no more; where there is no file system, there is a new one.
func (d *doing) reclaim() api.Res {
	s := d.Super()
	if s == grant.New() {
		d.add(api.Inode{Kind: api.Dir, Mode: rootMode, Parent: root})
		return api.Res{}
	}
	for ino, orphan := range s.Orphans {
		if orphan {
			d.forget(d.number(ino))
		}
	}
	return api.Res{}
}
