package plain

import (
	"maps"

	"oubliette/api"
)

// most: how many blocks a file may have.
const most = api.MaxFile / api.BlockLen

// padded: a block's bytes as new memory.
func padded(b []byte) []byte {
	block := make([]byte, api.BlockLen)
	copy(block, b)
	return block
}

// blocksOf: a node's blocks as new memory.
func blocksOf(n api.Node) map[int][]byte {
	blocks := map[int][]byte{}
	for k, b := range n.Blocks {
		if k >= 0 && k < most {
			blocks[k] = padded(b)
		}
	}
	return blocks
}

// listed: whether a node has a block from Direct on.
func listed(n *api.Node) bool {
	for k := range n.Blocks {
		if k >= api.Direct {
			return true
		}
	}
	return false
}

// content: a node's bytes up to its size.
func content(n *api.Node) []byte {
	b := make([]byte, api.MaxFile)
	for k, block := range n.Blocks {
		copy(b[k*api.BlockLen:], block)
	}
	return b[:n.Attr.Size]
}

// bytesAt: a node's bytes from a place on, so many at most, none behind its size.
func bytesAt(n *api.Node, off, count int) []byte {
	b := content(n)
	b = b[min(off, len(b)):]
	return append([]byte(nil), b[:min(count, len(b))]...)
}

// block: a node's block, which is made where there isn't one.
func block(n *api.Node, k int) []byte {
	if n.Blocks[k] == nil {
		n.Blocks[k] = padded(nil)
	}
	return n.Blocks[k]
}

// fill: the bytes are a node's from a place on.
func fill(n *api.Node, off int, b []byte) {
	for len(b) > 0 {
		done := copy(block(n, off/api.BlockLen)[off%api.BlockLen:], b)
		off, b = off+done, b[done:]
		n.Attr.Size = max(n.Attr.Size, off)
	}
	settle(n)
}

// cut: a file has a size, and nothing behind it.
func cut(n *api.Node, size int) {
	maps.DeleteFunc(n.Blocks, func(k int, _ []byte) bool { return k*api.BlockLen >= size })
	if last, ok := n.Blocks[size/api.BlockLen]; ok {
		clear(last[size%api.BlockLen:])
	}
	n.Attr.Size = size
	settle(n)
}
