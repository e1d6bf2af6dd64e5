package desk_test

import (
	"bytes"
	"fmt"
	"testing"

	"oubliette/api"
	"oubliette/desk"
	"oubliette/grant"
)

// written: what a file is behind a write, by the chapter's words: its bytes up to MaxFile, and which blocks it has.
func written(was []byte, blocks map[int]bool, off int, b []byte) ([]byte, map[int]bool) {
	out := bytes.Clone(was)
	then := map[int]bool{}
	for k := range blocks {
		then[k] = true
	}
	for k, x := range b {
		out[off+k] = x
		then[(off+k)/256] = true
	}
	return out, then
}

// write: a write to a file that is there, and Set; what is told and put is held to the chapter's words.
func (v volume) write(t *testing.T, slots int, r api.Ref, off int, b []byte) api.Inode {
	t.Helper()
	what := fmt.Sprintf("P13.5: Write of %d bytes at %d", len(b), off)
	n, e := v.get(t, r)
	if e != api.OK {
		t.Fatalf("P13.2: Get: %v", e)
	}
	bytesThen, blocksThen := written(v.bytesOf(n), blocksOf(v.slotsOf(n)), off, b)
	used := v.used(t)
	slotsWas := v.slotsOf(n)
	handed := append(bytes.Clone(b), 0xcc, 0xcc)
	out, _ := v.do(t, slots, func(d *desk.Desk) []any {
		takes, needs := d.Takes(n), d.Needs(n, off, len(b))
		copy(handed, b)
		m := d.Write(n, off, handed[:len(b)])
		if !bytes.Equal(handed, append(bytes.Clone(b), 0xcc, 0xcc)) {
			t.Fatalf("%s: what was handed in was changed", what)
		}
		for k := range handed {
			handed[k] = 0xcc
		}
		old, e := d.Get(r)
		read := d.Read(m, 0, m.Size)
		d.Set(r.Ino, m)
		d.Save()
		now, _ := d.Get(r)
		return []any{m, takes, needs, old, e, read, now, d.Takes(m)}
	})
	m := out[0].(api.Inode)
	size := n.Size
	if len(b) > 0 {
		size = max(size, off+len(b))
	}
	want := n
	want.Size, want.Slots, want.List = size, m.Slots, m.List
	same(t, what+": the inode", m, want)
	same(t, what+": Get ahead of Set", []any{out[3], out[4]}, []any{n, api.OK})
	sameBytes(t, what+": Read", out[5].([]byte), bytesThen[:size])
	same(t, what+": Get behind Set", out[6], m)
	sameBytes(t, what+": the volume's bytes", v.bytesOf(m), bytesThen)
	same(t, what+": the blocks", blocksOf(v.slotsOf(m)), blocksThen)
	for k, slot := range slotsWas {
		if slot != 0 && v.slotsOf(m)[k] != slot {
			t.Fatalf("%s: block %d was in slot %d, is in %d", what, k, slot, v.slotsOf(m)[k])
		}
	}
	same(t, what+": Takes and Needs", []any{out[1], out[7]}, []any{takesOf(blocksOf(slotsWas)), takesOf(blocksThen)})
	same(t, what+": Needs", out[2], v.used(t)-used)
	v.sound(t)
	return m
}

func TestWriteExamples(t *testing.T) {
	v := dirty(256)
	r, _ := v.made(t, 256, nil)
	n := v.write(t, 256, r, 300, []byte("hi"))
	if n.Size != 302 || n.Slots[1] == 0 || n.Slots[0] != 0 {
		t.Fatalf("P13.5: %v", n)
	}
	out, _ := v.do(t, 256, func(d *desk.Desk) []any { return []any{d.Takes(n), d.Read(n, 0, 5)} })
	same(t, "P13: the examples", out, []any{1, make([]byte, 5)})
	n = v.write(t, 256, r, 4096, []byte("x"))
	out, _ = v.do(t, 256, func(d *desk.Desk) []any { return []any{d.Takes(n)} })
	same(t, "P13: the examples", out, []any{3})
	n = v.cut(t, 256, r, 301)
	out, _ = v.do(t, 256, func(d *desk.Desk) []any { return []any{d.Takes(n), d.Read(n, 300, 9)} })
	same(t, "P13: the examples", out, []any{1, []byte("h")})
}

// TestWritePlaces: to files of many kinds, in their blocks' midst and ends, through many of them, from block 15 into 16, up to MaxFile.
func TestWritePlaces(t *testing.T) {
	first := map[string]map[int][]byte{
		"empty": nil, "a block": {0: text(1, 256)}, "some bytes": {0: text(1, 100)}, "holes": {300: text(1, 5), 1000: text(2, 600)},
		"the last direct one": {3840: text(1, 256)}, "the list's first": {4096: text(1, 1)}, "far": {32767: text(1, 1)}, "whole": {0: text(1, 32768)},
	}
	for what, parts := range first {
		for _, c := range [][2]int{
			{0, 0}, {5, 0}, {32768, 0}, {0, 1}, {0, 256}, {0, 255}, {1, 255}, {1, 254}, {255, 1}, {255, 2}, {256, 256}, {100, 50}, {100, 500}, {300, 2}, {700, 1200},
			{3840, 256}, {4095, 1}, {4096, 1}, {4095, 2}, {3840, 512}, {4000, 300}, {4096, 256}, {3000, 3000}, {32767, 1}, {32512, 256}, {32511, 257}, {0, 32768}, {0, 4096}, {0, 4097}, {4096, 28672},
		} {
			t.Run(fmt.Sprint(what, c), func(t *testing.T) {
				v := dirty(256)
				other, was := v.made(t, 256, map[int][]byte{10: text(8, 700), 5000: text(9, 9)})
				bytesWas := v.bytesOf(was)
				r, _ := v.made(t, 256, parts)
				v.write(t, 256, r, c[0], text(3, c[1]))
				v.isGot(t, other, was)
				sameBytes(t, "P13.6: another file", v.bytesOf(was), bytesWas)
			})
		}
	}
}

// TestWriteOver: again and again over what was written.
func TestWriteOver(t *testing.T) {
	v := dirty(256)
	r, _ := v.made(t, 256, nil)
	for k, c := range [][2]int{{100, 400}, {200, 100}, {0, 600}, {4000, 300}, {4100, 100}, {0, 5000}, {4096, 256}, {0, 0}, {599, 3}} {
		v.write(t, 256, r, c[0], text(k, c[1]))
	}
	v.write(t, 256, r, 512, make([]byte, 256))
	v.write(t, 256, r, 20000, make([]byte, 256))
}

// TestWriteZeros: bytes 0 are written as others are: where they come to, there is a block.
func TestWriteZeros(t *testing.T) {
	v := dirty(256)
	r, _ := v.made(t, 256, nil)
	n := v.write(t, 256, r, 1000, make([]byte, 5000))
	out, _ := v.do(t, 256, func(d *desk.Desk) []any { return []any{d.Takes(n)} })
	same(t, "P13.5: Takes of zeros", out, []any{22})
}

// TestWritePuts: blocks that a write doesn't come to aren't put, and the list only where it tells other slots.
func TestWritePuts(t *testing.T) {
	v := volume{}
	_, n := v.made(t, 256, map[int][]byte{0: text(1, 512), 4096: text(2, 512)})
	slots := v.slotsOf(n)
	block0, block16 := text(1, 256), text(2, 256)
	block0[5], block16[255] = 'a', 'a'
	block17 := text(2, 512)[256:]
	block17[0] = 'a'
	for _, c := range []struct {
		off  int
		data string
		want []any
	}{
		{5, "a", []any{slots[0], block0}},
		{4096 + 255, "aa", []any{slots[16], block16, slots[17], block17}},
	} {
		_, changes := v.copied().do(t, 256, func(d *desk.Desk) []any { return []any{d.Write(n, c.off, []byte(c.data))} })
		isPuts(t, "P13.5: Write over", changes, c.want...)
	}
	_, changes := v.copied().do(t, 256, func(d *desk.Desk) []any { return []any{d.Write(n, 100, nil), d.Write(n, 32768, []byte{})} })
	isPuts(t, "P13.5: Write of nothing", changes)
	out, changes := v.copied().do(t, 256, func(d *desk.Desk) []any { return []any{d.Write(n, 4096+512, []byte("a")).Slots} })
	same(t, "P13.5: the same direct slots", out[0], n.Slots)
	block18 := make([]byte, 256)
	block18[0] = 'a'
	isPuts(t, "P13.5: Write of a listed block", changes, n.List, packedList(t, map[int]int{16: slots[16], 17: slots[17], 18: 7}), 7, block18)
}

// TestWriteAllRoom: a write that needs the last slots that there are.
func TestWriteAllRoom(t *testing.T) {
	for _, slots := range []int{5, 20, 256, 1000} {
		for _, off := range []int{0, 256, 4096, 5000} {
			v := dirty(256)
			r, _ := v.made(t, slots, nil)
			room := min(slots, 256) - v.used(t)
			blocks := map[int]bool{off / 256: true}
			end := off/256 + 1
			for ; end < 128; end++ {
				blocks[end] = true
				if takesOf(blocks) > room {
					break
				}
			}
			v.write(t, slots, r, off, text(1, 256*end-off))
			if left := min(slots, 256) - v.used(t); end < 128 && left > 1 || left < 0 {
				t.Fatalf("P13.5: %d slots are left", left)
			}
		}
	}
}

// TestWriteNoRoom: where there is no room, the file stays as it is (callers see to it that there is).
func TestWriteNoRoom(t *testing.T) {
	v := dirty(256)
	_, n := v.made(t, 5, map[int][]byte{0: text(1, 300)})
	for _, c := range [][2]int{{512, 257}, {0, 1024}, {4096, 1}, {300, 30000}} {
		was := v.super(t)
		out, changes := v.do(t, 5, func(d *desk.Desk) []any {
			m := d.Write(n, c[0], text(2, c[1]))
			return []any{m, d.Super()}
		})
		same(t, "P13.5: Write without room", out, []any{n, was})
		isPuts(t, "P13.5: Write without room", changes)
	}
}

// TestWriteFar: what no file may have isn't written, and nothing panics.
func TestWriteFar(t *testing.T) {
	v := volume{}
	_, n := v.made(t, 256, map[int][]byte{0: text(1, 300)})
	for _, off := range append(odd(), 32768, 32769, 40000) {
		for _, count := range []int{0, 1, 300, 32768, 40000} {
			out, changes := v.do(t, 256, func(d *desk.Desk) []any { return []any{d.Write(n, off, text(2, count)), d.Needs(n, off, count)} })
			same(t, fmt.Sprintf("P13.5: Write of %d bytes at %d", count, off), out, []any{n, 0})
			isPuts(t, "P13.5: Write", changes)
		}
		for _, count := range odd() {
			out, _ := v.do(t, 256, func(d *desk.Desk) []any {
				return []any{d.Needs(n, off, count), d.Needs(n, 0, count), len(d.Read(n, off, 5)), len(d.Read(n, off, count))}
			})
			same(t, "P13.4: Needs and Read of what may not be", out, []any{0, 0, 0, 0})
		}
	}
	out, changes := v.do(t, 256, func(d *desk.Desk) []any { return []any{d.Write(n, 1, text(2, 32768)), d.Write(n, 0, text(2, 32769))} })
	same(t, "P13.5: Write above MaxFile", out, []any{n, n})
	isPuts(t, "P13.5: Write above MaxFile", changes)
}

// TestWriteFreshSlot: a slot that another file had, in this run or ahead of it, is bytes 0 where nothing is written.
func TestWriteFreshSlot(t *testing.T) {
	v := dirty(256)
	r, _ := v.made(t, 256, map[int][]byte{0: text(1, 6000)})
	keep, _ := v.made(t, 256, nil)
	out, _ := v.do(t, 256, func(d *desk.Desk) []any {
		d.Drop(r.Ino)
		n, _ := d.Get(keep)
		for _, off := range []int{10, 600, 4200, 9000} {
			n = d.Write(n, off, []byte{1, 2})
		}
		d.Set(keep.Ino, n)
		d.Save()
		return []any{n, d.Read(n, 0, 32768)}
	})
	want := make([]byte, 9002)
	for _, off := range []int{10, 600, 4200, 9000} {
		want[off], want[off+1] = 1, 2
	}
	sameBytes(t, "P13.5: Write", out[1].([]byte), want)
	v.sound(t)
}

// TestWriteSuperThatMayNotBe: where slot 0 isn't used, it is no file's all the same.
func TestWriteSuperThatMayNotBe(t *testing.T) {
	n := file()
	out, changes := volume{}.do(t, 256, func(d *desk.Desk) []any {
		d.SetSuper(api.Super{})
		m := d.Write(n, 0, []byte("a"))
		d.SetSuper(grant.New())
		return []any{m}
	})
	same(t, "P13.5: Write", out, []any{n})
	isPuts(t, "P13.5: Write", changes)
}
