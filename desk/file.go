package desk

import (
	"oubliette/api"
	"oubliette/inode"
)

// rowLen is how many blocks a file may have: those that its inode tells, and those that its list tells.
const rowLen = api.Direct + api.Listed

// row is the slots of a file's blocks, by their numbers; 0 of holes.
type row [rowLen]int

// block is what a file's block holds.
type block [api.BlockLen]byte

// list: the slots that the file's list tells.
func (r row) list() [api.Listed]int {
	var l [api.Listed]int
	copy(l[:], r[api.Direct:])
	return l
}

// listed: whether a block that the list tells has a slot.
func (r row) listed() bool {
	return r.list() != [api.Listed]int{}
}

// takes: how many slots a file takes whose blocks have these.
func (r row) takes() int {
	n := 0
	for k := range rowLen {
		if r[k] != 0 {
			n++
		}
	}
	if r.listed() {
		n++
	}
	return n
}

// row: the slots of a file's blocks, as far as they lie below an end: the list isn't looked for where all of them are the inode's own.
func (d *Desk) row(n api.Inode, end int) row {
	var r row
	copy(r[:], n.Slots[:])
	if end > api.Direct && n.List != 0 {
		// A block that is no list's tells of no slots.
		l, _ := inode.UnpackList(d.see(n.List))
		copy(r[api.Direct:], l[:])
	}
	return r
}

// content: what a slot holds; of a hole, bytes 0.
func (d *Desk) content(slot int) block {
	var b block
	if slot != 0 {
		copy(b[:], d.see(slot))
	}
	return b
}

// may: whether a file may have so many bytes from off on.
func may(off, count int) bool {
	return off >= 0 && count >= 0 && count <= api.MaxFile-off
}

// span: the first block that some bytes from off on come to, and the one behind the last.
func span(off, count int) (int, int) {
	return off / api.BlockLen, inode.Blocks(off + count)
}

// Slots: the slots of a file's blocks, 0 of holes, by their numbers.
func (d *Desk) Slots(n api.Inode) []int {
	d.begin()
	r := d.row(n, rowLen)
	return r[:]
}

// Takes: how many slots a file takes.
func (d *Desk) Takes(n api.Inode) int {
	d.begin()
	return d.row(n, rowLen).takes()
}

// Needs: how many slots more a file would take behind a write.
func (d *Desk) Needs(n api.Inode, off, count int) int {
	d.begin()
	if count == 0 || !may(off, count) {
		return 0
	}
	first, end := span(off, count)
	was := d.row(n, end)
	then := was
	for k := range end - first {
		if then[first+k] == 0 {
			then[first+k] = 1 // whichever it would be
		}
	}
	return then.takes() - was.takes()
}

// Read: some of a file's bytes.
func (d *Desk) Read(n api.Inode, off, count int) []byte {
	d.begin()
	size := min(n.Size, api.MaxFile)
	if off < 0 || off >= size || count <= 0 {
		return nil
	}
	count = min(count, size-off)
	first, end := span(off, count)
	r := d.row(n, end)
	var out []byte
	for k := range end - first {
		b := d.content(r[first+k])
		at := (first + k) * api.BlockLen
		out = append(out, b[max(off-at, 0):min(off+count-at, api.BlockLen)]...)
	}
	return out
}
