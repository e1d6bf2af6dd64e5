package plain

import (
	"slices"

	"oubliette/api"
	"oubliette/dir"
)

// isDir: whether a node is a directory.
func isDir(n *api.Node) bool { return n.Attr.Kind == api.Dir }

// isLink: whether a node is a symbolic link.
func isLink(n *api.Node) bool { return n.Attr.Kind == api.Symlink }

// orphan: whether a node has no name.
func orphan(n *api.Node) bool { return n.Attr.Links <= 0 }

// told: the answer that is a node's Attr.
func told(n *api.Node) api.Res { return api.Res{Attr: n.Attr} }

// changed: a node is changed.
func changed(n *api.Node) { n.Attr.Version++ }

// takes: what a node takes.
func takes(n *api.Node) int {
	sum := 1 + n.Attr.Blocks
	if listed(n) {
		sum++
	}
	return sum
}

// settle: a node's Attr tells of what it holds.
func settle(n *api.Node) {
	n.Attr.Blocks = len(n.Blocks)
	if isDir(n) {
		leaves, _ := dir.Leaves(n.Entries)
		n.Attr.Blocks = len(leaves)
		n.Attr.Size = api.BlockLen * len(leaves)
	}
}

// give: a name is given in a directory to a node; the entry of what had it goes.
func give(in *api.Node, name string, n *api.Node) {
	in.Cookie++
	in.Entries = dir.With(in.Entries, api.Entry{Name: name, Ref: n.Attr.Ref, Kind: n.Attr.Kind, Cookie: in.Cookie})
	settle(in)
}

// strike: a name's entry goes.
func strike(in *api.Node, name string) {
	in.Entries = dir.Without(in.Entries, name)
	settle(in)
}

// cloned: a node as new memory.
func cloned(n api.Node) api.Node {
	n.Blocks = blocksOf(n)
	n.Entries = slices.Clone(n.Entries)
	return n
}

// loaded: a node of an image as new memory. No image of a state tells of a greater size; of others, no more bytes are read than a file may have.
func loaded(n api.Node) *api.Node {
	n = cloned(n)
	n.Attr.Size = min(max(n.Attr.Size, 0), api.MaxFile)
	settle(&n)
	return &n
}
