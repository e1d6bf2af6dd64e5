package desk_test

import (
	"bytes"
	"fmt"
	"math"
	"testing"

	"oubliette/api"
	"oubliette/desk"
)

// cut: a file that is there has another size, and Set; what is told and put is held to the chapter's words.
func (v volume) cut(t *testing.T, slots int, r api.Ref, size int) api.Inode {
	t.Helper()
	what := fmt.Sprintf("P13.5: Cut to %d", size)
	n, e := v.get(t, r)
	if e != api.OK {
		t.Fatalf("P13.2: Get: %v", e)
	}
	bytesThen := append(v.bytesOf(n)[:size:size], make([]byte, 32768-size)...)
	was, list := v.slotsOf(n), n.List
	blocksThen := map[int]bool{}
	for k := range blocksOf(was) {
		if 256*k < size {
			blocksThen[k] = true
		}
	}
	out, changes := v.do(t, slots, func(d *desk.Desk) []any {
		m := d.Cut(n, size)
		old, e := d.Get(r)
		read := d.Read(m, 0, 40000)
		d.Set(r.Ino, m)
		d.Save()
		return []any{m, old, e, read, d.Takes(m)}
	})
	m := out[0].(api.Inode)
	want := n
	want.Size, want.Slots, want.List = size, m.Slots, m.List
	same(t, what+": the inode", m, want)
	same(t, what+": Get ahead of Set", out[1:3], []any{n, api.OK})
	sameBytes(t, what+": Read", out[3].([]byte), bytesThen[:size])
	same(t, what+": Takes", out[4], takesOf(blocksThen))
	sameBytes(t, what+": the volume's bytes", v.bytesOf(m), bytesThen)
	for k, slot := range v.slotsOf(m) {
		if blocksThen[k] && slot != was[k] || !blocksThen[k] && slot != 0 {
			t.Fatalf("%s: block %d was in slot %d, is in %d", what, k, was[k], slot)
		}
	}
	gone := map[int]bool{}
	for k, slot := range was {
		if slot != 0 && !blocksThen[k] {
			gone[slot] = true
		}
	}
	if list != 0 && m.List == 0 {
		gone[list] = true
	}
	for _, p := range changes {
		if gone[p.Slot] != (len(p.Block) == 0) {
			t.Fatalf("%s: slot %d: %x is put", what, p.Slot, p.Block)
		}
		delete(gone, p.Slot)
	}
	if len(gone) > 0 {
		t.Fatalf("%s: slots %v still hold bytes", what, gone)
	}
	v.sound(t)
	return m
}

// contents: files of many kinds.
func contents() map[string]map[int][]byte {
	return map[string]map[int][]byte{
		"empty": nil, "some bytes": {0: text(1, 100)}, "a block": {0: text(1, 256)}, "blocks": {0: text(1, 1000)}, "holes": {300: text(1, 5), 1000: text(2, 600)},
		"the direct ones": {0: text(1, 4096)}, "a list": {0: text(1, 4097)}, "a list alone": {5000: text(1, 600)}, "the list's two ends": {4100: text(1, 5), 32760: text(2, 8)}, "whole": {0: text(1, 32768)},
	}
}

// sizes: those that the chapter's words tell apart.
func sizes() []int {
	return []int{0, 1, 99, 100, 101, 255, 256, 257, 301, 305, 512, 1000, 1599, 1600, 2000, 3840, 4095, 4096, 4097, 4105, 4352, 5000, 5100, 5599, 5600, 32511, 32512, 32760, 32767, 32768}
}

func TestCutEach(t *testing.T) {
	for what, parts := range contents() {
		for _, size := range sizes() {
			t.Run(fmt.Sprint(what, size), func(t *testing.T) {
				v := dirty(256)
				other, was := v.made(t, 256, map[int][]byte{10: text(8, 700), 5000: text(9, 9)})
				bytesWas := v.bytesOf(was)
				r, _ := v.made(t, 256, parts)
				v.cut(t, 256, r, size)
				v.isGot(t, other, was)
				sameBytes(t, "P13.6: another file", v.bytesOf(was), bytesWas)
			})
		}
	}
}

// TestCutAndLonger: what was cut off is bytes 0, when the file is longer again, and when it is written behind its size.
func TestCutAndLonger(t *testing.T) {
	for what, parts := range contents() {
		for _, size := range []int{0, 1, 100, 256, 300, 4000, 4096, 4097, 5000} {
			t.Run(fmt.Sprint(what, size), func(t *testing.T) {
				v := dirty(256)
				r, _ := v.made(t, 256, parts)
				v.cut(t, 256, r, size)
				n := v.cut(t, 256, r, 32768)
				all := bytes.Clone(v.bytesOf(n))
				if rest := all[size:]; !bytes.Equal(rest, make([]byte, len(rest))) {
					t.Fatalf("P13.5: bytes that were cut off are there again")
				}
				v.cut(t, 256, r, size)
				n = v.write(t, 256, r, size+3, []byte{9})
				sameBytes(t, "P13.5: behind the size", v.bytesOf(n)[size:size+5], []byte{0, 0, 0, 9, 0})
			})
		}
	}
}

// TestCutToNothing: a file that is cut to nothing takes nothing.
func TestCutToNothing(t *testing.T) {
	for what, parts := range contents() {
		v := dirty(256)
		r, _ := v.made(t, 256, parts)
		n := v.cut(t, 256, r, 0)
		out, _ := v.do(t, 256, func(d *desk.Desk) []any { return []any{d.Takes(n)} })
		same(t, "P13.6: Takes of "+what, out, []any{0})
		if v.used(t) != 2 || n.List != 0 || n.Slots != [16]int{} {
			t.Fatalf("P13.6: %s: %d slots are used, %v", what, v.used(t), n)
		}
	}
}

// TestCutPuts: where nothing is cut off, nothing is put; where something is, what changes and no more.
func TestCutPuts(t *testing.T) {
	v := volume{}
	_, n := v.made(t, 256, map[int][]byte{0: text(1, 600), 4096: text(2, 600)})
	slots := v.slotsOf(n)
	rest := append(text(1, 100), make([]byte, 156)...)
	far := append(text(2, 300)[256:], make([]byte, 212)...)
	for _, c := range []struct {
		size int
		want []any
	}{
		{n.Size, nil}, {n.Size + 1, nil}, {n.Size + 100, nil}, {32768, nil},
		{100, []any{slots[0], rest, slots[1], nothing, slots[2], nothing, n.List, nothing, slots[16], nothing, slots[17], nothing, slots[18], nothing}},
		{0, []any{slots[0], nothing, slots[1], nothing, slots[2], nothing, n.List, nothing, slots[16], nothing, slots[17], nothing, slots[18], nothing}},
		{4096, []any{n.List, nothing, slots[16], nothing, slots[17], nothing, slots[18], nothing}},
		{4096 + 300, []any{n.List, packedList(t, map[int]int{16: slots[16], 17: slots[17]}), slots[17], far, slots[18], nothing}},
		{4096 + 512, []any{n.List, packedList(t, map[int]int{16: slots[16], 17: slots[17]}), slots[18], nothing}},
	} {
		_, changes := v.copied().do(t, 256, func(d *desk.Desk) []any { return []any{d.Cut(n, c.size)} })
		got := puts(c.want...)
		for _, p := range got {
			if !samePuts([]api.Put{p}, []api.Put{find(changes, p.Slot)}) {
				t.Fatalf("P13.5: Cut to %d: slot %d: %x", c.size, p.Slot, find(changes, p.Slot).Block)
			}
		}
		if len(got) != len(changes) {
			t.Fatalf("P13.5: Cut to %d: %v, not %v", c.size, changes, got)
		}
	}
}

func find(list []api.Put, slot int) api.Put {
	for _, p := range list {
		if p.Slot == slot {
			return p
		}
	}
	return api.Put{Slot: -1}
}

// TestCutFar: a size that no file may have changes nothing, and nothing panics.
func TestCutFar(t *testing.T) {
	v := volume{}
	_, n := v.made(t, 256, map[int][]byte{0: text(1, 600), 4096: text(2, 600)})
	for _, size := range append(odd(), 32769, 40000) {
		out, changes := v.do(t, 256, func(d *desk.Desk) []any { return []any{d.Cut(n, size)} })
		same(t, fmt.Sprintf("P13.5: Cut to %d", size), out, []any{n})
		isPuts(t, "P13.5: Cut", changes)
	}
}

// TestListWithoutSlots: a list that isn't needed goes with the next cut; a write that needs one takes it.
func TestListWithoutSlots(t *testing.T) {
	for _, size := range []int{0, 100, 5000, 32768} {
		v, n := laid(t, nil, 12, 5000)
		s := v.super(t)
		s.Used[12] = true
		v[0] = packedSuper(t, s)
		out, changes := v.do(t, 256, func(d *desk.Desk) []any {
			m := d.Cut(n, size)
			return []any{m, d.Super()}
		})
		want := n
		want.Size, want.List = size, 0
		s.Used[12] = false
		same(t, "P13.5: Cut", out, []any{want, s})
		isPuts(t, "P13.5: Cut", changes, 12, nothing)
	}
	v, n := laid(t, nil, 12, 5000)
	out, _ := v.do(t, 256, func(d *desk.Desk) []any {
		m := d.Write(n, 4096, []byte("a"))
		return []any{m.List, d.Takes(m), d.Super().Used[1], d.Super().Used[2]}
	})
	same(t, "P13.5: Write", out, []any{12, 2, true, false})
}

// TestInodeThatMayNotBe: of an inode that no Get tells nothing panics, and what is no slot isn't given back.
func TestInodeThatMayNotBe(t *testing.T) {
	v := dirty(256)
	for _, x := range append(odd(), 256, 32769, 40000) {
		n := api.Inode{Size: x, List: x}
		n.Slots[0], n.Slots[1], n.Slots[15] = x, 5, x
		d, y := v.desk(256)
		again(t, source{v: v}, y, func() {
			read := d.Read(n, 0, math.MaxInt)
			if len(read) != min(max(x, 0), 32768) {
				t.Fatalf("P13.4: Read of a file of %d bytes: %d", x, len(read))
			}
			d.Slots(n)
			d.Needs(n, 0, 32768)
			if got := d.Takes(n); got != 3 {
				t.Fatalf("P13.4: Takes: %d", got)
			}
			d.Cut(n, 256)
			d.Cut(n, 0)
		})
		isPuts(t, "P13.5: Cut", y.Changes(), 5, nothing)
		again(t, source{v: v}, y, func() {
			d.Cut(n, 10)
			d.Write(n, 1, text(1, 32767))
			d.Make(n)
			d.Set(1, n)
			d.Drop(1)
		})
	}
}
