package desk

import (
	"oubliette/api"
	"oubliette/grant"
	"oubliette/inode"
)

// plan is where a file will lie, and the super then. A change sees all that it comes to ahead of its first put: a slot may hold something else behind that.
type plan struct {
	super api.Super
	row   row
	list  int
}

// take: where there is no slot, one is taken; whether there is one then.
func (p *plan) take(at *int, slots int) bool {
	if *at == 0 {
		p.super, *at, _ = grant.Take(p.super, slots)
	}
	return *at != 0
}

// fill: the holes from the first block to an end have slots, and the list, if it tells one of them; whether there is room for that.
func (p *plan) fill(first, end, slots int) bool {
	for k := range end - first {
		if !p.take(&p.row[first+k], slots) {
			return false
		}
	}
	return end <= api.Direct || p.take(&p.list, slots)
}

// told: the inode that tells where the file lies then.
func (p *plan) told(n api.Inode, size int) api.Inode {
	copy(n.Slots[:], p.row[:])
	n.List, n.Size = p.list, size
	return n
}

// putList: a file's list is put, if it is a new one, or tells other slots than it did.
func (d *Desk) putList(n api.Inode, was row, p *plan) {
	if p.list == 0 || p.list == n.List && p.row.list() == was.list() {
		return
	}
	if b, e := inode.PackList(p.row.list()); e == api.OK {
		d.put(p.list, b)
	}
}

// mixed: what a slot's block holds behind a write whose data begin so many bytes behind the block's beginning, or ahead of it.
func (d *Desk) mixed(slot, begin int, data []byte) block {
	var b block
	if begin > 0 || begin+len(data) < api.BlockLen {
		b = d.content(slot)
	}
	copy(b[max(begin, 0):], data[max(-begin, 0):])
	return b
}

// Write: bytes of a file.
func (d *Desk) Write(n api.Inode, off int, data []byte) api.Inode {
	d.begin()
	if len(data) == 0 || !may(off, len(data)) {
		return n
	}
	d.load()
	first, end := span(off, len(data))
	was := d.row(n, end)
	p := plan{d.book.super, was, n.List}
	if !p.fill(first, end, d.slots) {
		return n
	}
	var blocks []block
	for k := range end - first {
		// By the slot that the block had: what a new one holds is another file's.
		blocks = append(blocks, d.mixed(was[first+k], off-(first+k)*api.BlockLen, data))
	}
	d.book.super = p.super
	for k := range end - first {
		d.put(p.row[first+k], blocks[k][:])
	}
	d.putList(n, was, &p)
	return p.told(n, max(n.Size, off+len(data)))
}

// shut: what a slot's block holds where only so many of its bytes stay, and whether that is something else.
func (d *Desk) shut(slot, stay int) (block, bool) {
	was := d.content(slot)
	then := was
	clear(then[stay:])
	return then, then != was
}

// release: what a file's blocks and its list had and don't have any more isn't used.
func (d *Desk) release(n api.Inode, was row, p *plan) {
	for k := range rowLen {
		if p.row[k] == 0 {
			d.give(was[k])
		}
	}
	if p.list == 0 {
		d.give(n.List)
	}
}

// Cut: a file has another size.
func (d *Desk) Cut(n api.Inode, size int) api.Inode {
	d.begin()
	if !may(0, size) {
		return n
	}
	d.load()
	was := d.row(n, rowLen)
	p := plan{d.book.super, was, n.List}
	end := inode.Blocks(size)
	clear(p.row[end:])
	if !p.row.listed() {
		p.list = 0
	}
	last, stay := size/api.BlockLen, size%api.BlockLen
	var rest block
	cuts := false
	if stay > 0 {
		rest, cuts = d.shut(was[last], stay)
	}
	d.release(n, was, &p)
	if cuts {
		d.put(was[last], rest[:])
	}
	d.putList(n, was, &p)
	return p.told(n, size)
}
