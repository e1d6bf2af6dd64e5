package dir_test

import (
	"bytes"
	"fmt"
	"maps"
	"math"
	"slices"
	"strings"
	"testing"

	"oubliette/api"
	"oubliette/desk"
	"oubliette/dir"
)

// TestPutAndList: lists of all lengths, put in a file without bytes.
func TestPutAndList(t *testing.T) {
	for _, length := range []int{1, 2, 17, 32} {
		for count := range 33 {
			l := named(names(count, length)...)
			v, n, r := fresh(t, nil)
			v.isList(t, n, nil)
			n = v.puts(t, 256, r, l)
			v.isList(t, n, l)
			if want := 2 + len(leavesOf(l)); v.used(t) != want {
				t.Fatalf("P14.4: %d slots are used behind Put of %d entries, not %d", v.used(t), count, want)
			}
		}
	}
}

// TestPutInTurn: lists that grow and shrink over a leaf's edge, put one over the other.
func TestPutInTurn(t *testing.T) {
	for _, length := range []int{1, 32} {
		v, _, r := fresh(t, nil)
		for _, count := range []int{1, 0, 5, 6, 5, 15, 16, 15, 14, 16, 10, 11, 10, 30, 31, 30, 32, 32, 1, 32, 16, 15, 6, 5, 0, 0, 32, 0} {
			l := named(names(count, length)...)
			n := v.puts(t, 256, r, l)
			v.isList(t, n, l)
			if want := 2 + len(leavesOf(l)); v.used(t) != want {
				t.Fatalf("P14.4: %d slots are used behind Put of %d entries, not %d", v.used(t), count, want)
			}
		}
	}
}

// TestPutOneByOne: entries come one by one, by With, and go, by Without.
func TestPutOneByOne(t *testing.T) {
	r := newRand(4)
	v, n, ref := fresh(t, nil)
	var l []api.Entry
	all := list(r, 32)
	for _, k := range r.Perm(32) {
		l = dir.With(l, all[k])
		n = v.puts(t, 256, ref, l)
	}
	v.isList(t, n, all)
	for _, k := range r.Perm(32) {
		l = dir.Without(l, all[k].Name)
		n = v.puts(t, 256, ref, l)
	}
	v.isList(t, n, nil)
}

// TestPutShorter: what was there behind a shorter list isn't there any more, though the file is longer again.
func TestPutShorter(t *testing.T) {
	long, short := named(names(32, 32)...), named(names(6, 32)...)
	v, _, r := fresh(t, nil)
	v.puts(t, 256, r, long)
	n := v.puts(t, 256, r, short)
	v.do(t, 256, func(d *desk.Desk) []any {
		m := d.Cut(n, 7*256)
		if got := d.Read(m, 512, api.MaxFile); !bytes.Equal(got, make([]byte, 5*256)) {
			t.Fatalf("P14.4: behind a shorter list: %x", got)
		}
		if d.Takes(m) != 2 {
			t.Fatalf("P14.4: a shorter list takes %d", d.Takes(m))
		}
		return nil
	})
	got, puts := v.do(t, 256, func(d *desk.Desk) []any {
		m := dir.Put(d, n, nil)
		d.Set(r.Ino, m)
		d.Save()
		return []any{m, d.Takes(m), d.Slots(m)}
	})
	if m := got[0].(api.Inode); m != bare(n) || got[1] != 0 || slices.Max(got[2].([]int)) != 0 {
		t.Fatalf("P14.4: Put of no entries: %v", got)
	}
	for _, p := range puts {
		if p.Slot > 1 && len(p.Block) != 0 {
			t.Fatalf("P14.4: Put of no entries puts %v", p)
		}
	}
	if v.used(t) != 2 {
		t.Fatalf("P14.4: %d slots are used behind Put of no entries", v.used(t))
	}
}

// TestPutSetsNothing: Get tells the old inode until Set; of a run with Put alone the file that is set is as it was.
func TestPutSetsNothing(t *testing.T) {
	v, was, r := fresh(t, nil)
	l := named(names(3, 5)...)
	_, puts := v.do(t, 256, func(d *desk.Desk) []any {
		n := dir.Put(d, was, l)
		got, e := d.Get(r)
		if got != was || e != api.OK {
			t.Fatalf("P14.4: Get behind Put: %v, %v; not %v", got, e, was)
		}
		return []any{n}
	})
	if len(puts) != 1 || !bytes.Equal(puts[0].Block, leavesOf(l)[0]) {
		t.Fatalf("P14.4: Put puts %v", puts)
	}
	v.isList(t, was, nil)
}

// TestPutOver: over a file of any bytes, short, long, with holes and a list, the file is the leaves and nothing else.
func TestPutOver(t *testing.T) {
	for _, parts := range []map[int]int{{0: 1}, {0: 255}, {0: 256}, {0: 257}, {0: 1000}, {0: 4096}, {0: 4097}, {0: 9000}, {300: 2}, {4096: 1}, {600: 100, 5000: 700}, {0: 256, 32000: 768}, {32767: 1}} {
		for _, count := range []int{0, 1, 5, 6, 16, 32} {
			l := named(names(count, 32)...)
			v, _, r := fresh(t, nil)
			v.do(t, 256, func(d *desk.Desk) []any {
				n, _ := d.Get(r)
				for _, off := range slices.Sorted(maps.Keys(parts)) {
					n = d.Write(n, off, bytes.Repeat([]byte{0xcc}, parts[off]))
				}
				d.Set(r.Ino, n)
				d.Save()
				return nil
			})
			v.isList(t, v.puts(t, 256, r, l), l)
			if want := 2 + len(leavesOf(l)); v.used(t) != want {
				t.Fatalf("P14.4: %v: %d slots are used behind Put of %d entries, not %d", parts, v.used(t), count, want)
			}
		}
	}
}

// TestPutBeside: other files stay as they are.
func TestPutBeside(t *testing.T) {
	v, first, _ := fresh(t, bytes.Repeat([]byte{7}, 5000))
	got, _ := v.do(t, 256, func(d *desk.Desk) []any {
		a, _ := d.Make(directory())
		b, _ := d.Make(directory())
		d.Save()
		return []any{a, b}
	})
	a, b := got[0].(api.Ref), got[1].(api.Ref)
	for turn, count := range []int{1, 6, 32, 16, 0, 5, 20} {
		l, m := named(names(count, 32)...), named(names(32-count, 3)...)
		n, o := v.puts(t, 256, a, l), v.puts(t, 256, b, m)
		v.isList(t, n, l)
		v.isList(t, o, m)
		v.do(t, 256, func(d *desk.Desk) []any {
			if got := d.Read(first, 0, 9000); !bytes.Equal(got, bytes.Repeat([]byte{7}, 5000)) {
				t.Fatalf("P14.4: turn %d: another file is %x", turn, got)
			}
			return nil
		})
	}
}

// TestPutWithLittleRoom: in a volume whose slots are as many as that takes.
func TestPutWithLittleRoom(t *testing.T) {
	six, other, five := named(names(6, 32)...), named(names(7, 32)...), named(names(5, 32)...)
	other[0].Name = "L" + other[0].Name[1:]
	v, _, r := fresh(t, nil)
	for _, l := range [][]api.Entry{six, other, five, six, nil, other} {
		v.isList(t, v.puts(t, 4, r, l), l)
	}
	for slot := 4; slot < 256; slot++ {
		if !bytes.Equal(v[slot], block(byte(slot))) {
			t.Fatalf("P14.4: slot %d of 4 was put", slot)
		}
	}
}

// TestPutWrong: of lists that may not be the inode is as it was, and nothing is put.
func TestPutWrong(t *testing.T) {
	good := named(names(6, 32)...)
	for _, content := range [][]byte{nil, bytes.Join(leavesOf(good), nil), bytes.Repeat([]byte{9}, 5000)} {
		v, _, r := fresh(t, content)
		v.keeps(t, "33 entries", r, named(names(33, 2)...))
		v.keeps(t, "names that don't rise", r, named("b", "a"))
		v.keeps(t, "names that don't rise", r, named("a", "c", "b"))
		v.keeps(t, "a name that stands twice", r, named("a", "a"))
		v.keeps(t, "two cookies alike", r, []api.Entry{entry("a", 1), entry("b", 1)})
		for _, w := range wrongs() {
			v.keeps(t, w.why, r, changed(good, 3, w.do))
			v.keeps(t, w.why, r, changed(good[:1], 0, w.do))
		}
	}
}

// TestListSizes: a size that is no multiple of a block's length.
func TestListSizes(t *testing.T) {
	l := named(names(11, 32)...)
	v, n, _ := fresh(t, bytes.Join(leavesOf(l), nil))
	v.isList(t, n, l)
	for size := 1; size < 1024; size++ {
		m := n
		m.Size = size
		if size%256 != 0 {
			v.isNone(t, fmt.Sprint("size ", size), m)
		} else {
			v.isList(t, m, l[:min(5*size/256, 11)]) // whole leaves, up to the size
		}
	}
	n.Size = 0
	v.isList(t, n, nil)
	for _, size := range []int{32767, 32769, 65535, -1, -255, -257} {
		n.Size = size
		v.isNone(t, fmt.Sprint("size ", size), n)
	}
}

// TestListSizesOfWrites: likewise, of files that were written and cut so.
func TestListSizesOfWrites(t *testing.T) {
	l := named(names(6, 32)...)
	content := bytes.Join(leavesOf(l), nil)
	for _, size := range []int{1, 2, 255, 257, 300, 511, 513, 767, 769, 1000} {
		v, n, _ := fresh(t, append(slices.Clone(content), make([]byte, 1000)...)[:size])
		v.isNone(t, fmt.Sprint("size ", size), n)
	}
	v, n, _ := fresh(t, content[:256])
	v.isList(t, n, l[:5])
}

// TestListOfOtherBytes: files whose bytes are no list's leaves.
func TestListOfOtherBytes(t *testing.T) {
	l := named(names(11, 32)...)
	leaves := leavesOf(l)
	for why, blocks := range map[string][][]byte{
		"bytes 0":                    {block(0)},
		"any bytes":                  {block(7)},
		"any bytes, long":            slices.Repeat([][]byte{block(1)}, 128),
		"bytes 0 behind":             append(slices.Clone(leaves), block(0)),
		"bytes 0 ahead":              append([][]byte{block(0)}, leaves...),
		"another order":              {leaves[1], leaves[0], leaves[2]},
		"a leaf twice":               {leaves[0], leaves[0]},
		"the last one first":         {leaves[2], leaves[0]},
		"a leaf with room":           {leafOf(1, l[0]), leafOf(1, l[1])},
		"33 leaves":                  eachAlone(33),
		"128 leaves":                 eachAlone(128),
		"names that don't rise":      leavesOf(named("b", "a")),
		"a name that may not be":     leavesOf(named("a/b")),
		"two cookies alike":          leavesOf([]api.Entry{entry("a", 1), entry("b", 1)}),
		"a byte behind the last one": set(leaves, 2, 255, 1),
		"a count too great":          set(leaves, 2, 0, 2),
		"a count too little":         set(leaves, 0, 0, 4),
	} {
		v, n, _ := fresh(t, bytes.Join(blocks, nil))
		v.isNone(t, why, n)
	}
}

// eachAlone: so many leaves of one entry each.
func eachAlone(count int) [][]byte {
	var out [][]byte
	for k := range count {
		out = append(out, leafOf(1, entry(strings.Repeat("m", 30)+string(rune(0x100+k)), uint32(k+1))))
	}
	return out
}

// TestListOfHoles: holes are blocks of bytes 0, ahead, between and behind.
func TestListOfHoles(t *testing.T) {
	l := named(names(11, 32)...)
	v, n, _ := fresh(t, bytes.Join(leavesOf(l), nil))
	for hole := range 3 {
		m := n
		m.Slots[hole] = 0
		v.isNone(t, "a hole", m)
	}
	m := n
	m.Size = 4 * 256
	v.isNone(t, "a hole behind", m)
	m.Size = api.MaxFile
	v.isNone(t, "holes behind", m)
	m = bare(n)
	v.isList(t, m, nil)
	m.Size = 256
	v.isNone(t, "a hole alone", m)
}

// TestListTurned: each byte of a directory's slots turned: IO, or the list that is told then; byte for byte as Parse tells it.
func TestListTurned(t *testing.T) {
	l := named(names(6, 32)...)
	v, n, _ := fresh(t, bytes.Join(leavesOf(l), nil))
	for k := range 2 {
		slot := n.Slots[k]
		was := v[slot]
		for at := range 256 {
			for _, x := range []byte{0x01, 0x80, 0xff} {
				v[slot] = bytes.Clone(was)
				v[slot][at] ^= x
				want, ok := listOf([][]byte{v[n.Slots[0]], v[n.Slots[1]]})
				if ok {
					v.isList(t, n, want)
				} else {
					v.isNone(t, "a byte turned", n)
				}
			}
		}
		v[slot] = was
	}
	v.isList(t, n, l)
}

// TestPutIsNew: the list that Put was handed may be written over; it stays as it was, and what List answers is no way to the file.
func TestPutIsNew(t *testing.T) {
	was := named(names(6, 32)...)
	v, first, _ := fresh(t, nil)
	v.do(t, 256, func(d *desk.Desk) []any {
		l, asItWas := spare(was)
		n := dir.Put(d, first, l)
		if !asItWas() {
			t.Fatal("P14.4: Put changed the list")
		}
		scrub(l)
		for range 2 {
			got, e := dir.List(d, n)
			if e != api.OK {
				t.Fatalf("P14.4: List: %v", e)
			}
			sameList(t, "P14.4: List", got, was)
			scrubAll(got)
		}
		return nil
	})
}

// TestAnyInodes: of inodes that may not be List and Put end, too.
func TestAnyInodes(t *testing.T) {
	v, n, _ := fresh(t, bytes.Join(leavesOf(named(names(6, 32)...)), nil))
	for _, size := range []int{math.MinInt, -256, -1, 32768, 32769, 33024, 1 << 20, math.MaxInt - 255, math.MaxInt} {
		for _, slot := range []int{math.MinInt, -1, 0, n.Slots[0], 256, math.MaxInt} {
			m := n
			m.Size, m.Slots[0], m.List = size, slot, slot
			v.do(t, 256, func(d *desk.Desk) []any {
				dir.List(d, m)
				for count := range 8 {
					dir.Put(d, m, named(names(count, 32)...))
				}
				return nil
			})
		}
	}
}

// TestPutsByChance: lists by chance, put one over the other.
func TestPutsByChance(t *testing.T) {
	r := newRand(44)
	v, _, ref := fresh(t, nil)
	for range 200 {
		l := list(r, r.Intn(33))
		v.isList(t, v.puts(t, 256, ref, l), l)
		if want := 2 + len(leavesOf(l)); v.used(t) != want {
			t.Fatalf("P14.4: %d slots are used behind Put of %d entries, not %d", v.used(t), len(l), want)
		}
	}
}
