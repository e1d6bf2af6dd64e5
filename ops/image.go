package ops

import "oubliette/api"

// blocks: a node's blocks that there are, by their numbers.
func (d *doing) blocks(n *node) map[int][]byte {
	blocks := map[int][]byte{}
	for k, slot := range d.Slots(n.Inode) {
		if slot != 0 {
			block := make([]byte, api.BlockLen)
			copy(block, d.See(slot))
			blocks[k] = block
		}
	}
	return blocks
}

// whole: a node with all that it holds.
func (d *doing) whole(n *node) api.Node {
	w := api.Node{Attr: d.attr(n), Parent: n.Parent, Cookie: n.Cookie}
	if n.isDir() {
		w.Entries = d.entries(n)
		return w
	}
	w.Blocks = d.blocks(n)
	return w
}

// image: the volume's image.
func (d *doing) image() api.Image {
	i := api.Image{Serial: d.Super().Serial}
	for ino := root; ino <= api.MaxInodes; ino++ {
		if n := d.number(ino); n != nil {
			i.Nodes = append(i.Nodes, d.whole(n))
		}
	}
	return i
}
