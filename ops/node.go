package ops

import "oubliette/api"

// node is an inode that an operation has come to: its number, and the inode as it is, and as its slot holds it.
type node struct {
	api.Inode
	ino int
	was api.Inode
}

// ref: the node's name.
func (n *node) ref() api.Ref { return api.Ref{Ino: n.ino, Serial: n.Serial} }

// isDir: whether the node is a directory.
func (n *node) isDir() bool { return n.Kind == api.Dir }

// isLink: whether the node is a symbolic link.
func (n *node) isLink() bool { return n.Kind == api.Symlink }

// orphan: whether the node has no name.
func (n *node) orphan() bool { return n.Links <= 0 }
