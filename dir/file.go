package dir

import (
	"bytes"
	"slices"

	"oubliette/api"
	"oubliette/desk"
)

// List: the list of a directory's file. IO.
func List(d *desk.Desk, n api.Inode) ([]api.Entry, api.Errno) {
	if d == nil || n.Size%api.BlockLen != 0 {
		return nil, api.IO
	}
	b := d.Read(n, 0, n.Size)
	return Parse(slices.Collect(slices.Chunk(b, api.BlockLen)))
}

// Put: a directory's file is a list's leaves.
func Put(d *desk.Desk, n api.Inode, l []api.Entry) api.Inode {
	leaves, e := Leaves(l)
	if d == nil || e != api.OK {
		return n
	}
	b := bytes.Join(leaves, nil)
	// Cut first, for what is given back may be taken by the write; but never longer, so that a directory is as it was where the write finds no slots.
	return d.Write(d.Cut(n, min(max(n.Size, 0), len(b))), 0, b)
}
