package desk_test

import (
	"fmt"
	"math"
	"slices"
	"testing"

	"oubliette/api"
	"oubliette/desk"
)

// laid: a volume that holds a file so: which of its blocks have which slots, and its list.
func laid(t *testing.T, blocks map[int]int, list, size int) (volume, api.Inode) {
	t.Helper()
	v := dirty(256)
	n := file()
	n.Serial, n.Size, n.List = 1, size, list
	tells := map[int]int{}
	for k, slot := range blocks {
		if k < api.Direct {
			n.Slots[k] = slot
		} else {
			tells[k] = slot
		}
	}
	if list != 0 {
		v[list] = packedList(t, tells)
	}
	return v, n
}

// layouts: files of many kinds: without blocks, with direct ones, with the list's, with its first and its last, with all.
func layouts() []struct {
	what   string
	blocks map[int]int
	list   int
} {
	all := map[int]int{}
	for k := range 128 {
		all[k] = 255 - k
	}
	return []struct {
		what   string
		blocks map[int]int
		list   int
	}{
		{"no blocks", nil, 0},
		{"the first", map[int]int{0: 9}, 0},
		{"the last direct one", map[int]int{15: 255}, 0},
		{"direct ones", map[int]int{0: 3, 1: 1, 7: 200, 15: 2}, 0},
		{"the list's first", map[int]int{16: 5}, 6},
		{"the list's last", map[int]int{127: 1}, 255},
		{"the list's two ends", map[int]int{16: 254, 127: 1}, 2},
		{"both", map[int]int{0: 10, 15: 11, 16: 12, 100: 13}, 14},
		{"a list without slots", map[int]int{2: 5}, 8},
		{"all", all, 1},
	}
}

func TestSlots(t *testing.T) {
	for _, l := range layouts() {
		v, n := laid(t, l.blocks, l.list, 32768)
		want := make([]int, 128)
		for k, slot := range l.blocks {
			want[k] = slot
		}
		out, changes := v.do(t, 256, func(d *desk.Desk) []any {
			first := d.Slots(n)
			mine := slices.Clone(first)
			for k := range first[:cap(first)] {
				first[:cap(first)][k] = -7
			}
			return []any{mine, d.Slots(n)}
		})
		same(t, "P13.4: Slots of "+l.what, out, []any{want, want})
		isPuts(t, "P13.4: Slots of "+l.what, changes)
	}
}

// takesOf: by the chapter's words.
func takesOf(blocks map[int]bool) int {
	n, list := 0, 0
	for k := range blocks {
		n++
		if k >= 16 {
			list = 1
		}
	}
	return n + list
}

func blocksOf(slots [128]int) map[int]bool {
	out := map[int]bool{}
	for k, slot := range slots {
		if slot != 0 {
			out[k] = true
		}
	}
	return out
}

func TestTakes(t *testing.T) {
	want := map[string]int{
		"no blocks": 0, "the first": 1, "the last direct one": 1, "direct ones": 4, "the list's first": 2, "the list's last": 2,
		"the list's two ends": 3, "both": 5, "a list without slots": 1, "all": 129,
	}
	for _, l := range layouts() {
		for _, size := range []int{0, 1, 32768} {
			v, n := laid(t, l.blocks, l.list, size)
			out, changes := v.do(t, 256, func(d *desk.Desk) []any { return []any{d.Takes(n)} })
			same(t, "P13.4: Takes of "+l.what, out, []any{want[l.what]})
			isPuts(t, "P13.4: Takes of "+l.what, changes)
			same(t, "P13.4: the words, of "+l.what, takesOf(blocksOf(v.slotsOf(n))), want[l.what])
		}
	}
}

func TestNeedsExamples(t *testing.T) {
	for _, c := range []struct {
		what       string
		off, count int
		want       int
	}{
		{"no blocks", 0, 0, 0}, {"no blocks", 5000, 0, 0}, {"no blocks", 32768, 0, 0},
		{"no blocks", 0, 1, 1}, {"no blocks", 0, 256, 1}, {"no blocks", 0, 257, 2}, {"no blocks", 255, 1, 1}, {"no blocks", 255, 2, 2},
		{"no blocks", 4095, 1, 1}, {"no blocks", 4096, 1, 2}, {"no blocks", 4095, 2, 3}, {"no blocks", 3840, 256, 1}, {"no blocks", 3840, 257, 3},
		{"no blocks", 0, 4096, 16}, {"no blocks", 0, 4097, 18}, {"no blocks", 0, 32768, 129}, {"no blocks", 32767, 1, 2}, {"no blocks", 32512, 256, 2},
		{"the first", 0, 256, 0}, {"the first", 0, 257, 1}, {"the first", 256, 1, 1}, {"the first", 100, 5, 0},
		{"direct ones", 0, 512, 0}, {"direct ones", 0, 513, 1}, {"direct ones", 0, 4096, 12}, {"direct ones", 3840, 257, 2},
		{"the list's first", 4096, 256, 0}, {"the list's first", 4096, 257, 1}, {"the list's first", 0, 32768, 127}, {"the list's first", 32767, 1, 1},
		{"the list's last", 4096, 1, 1}, {"the list's last", 4095, 2, 2}, {"the list's last", 32767, 1, 0},
		{"both", 4095, 257, 0}, {"both", 3839, 2, 1}, {"both", 0, 0, 0},
		{"a list without slots", 4096, 1, 2}, {"a list without slots", 0, 4096, 15}, {"a list without slots", 512, 1, 0},
		{"all", 0, 32768, 0}, {"all", 4096, 1, 0}, {"all", 7, 0, 0},
	} {
		for _, l := range layouts() {
			if l.what != c.what {
				continue
			}
			v, n := laid(t, l.blocks, l.list, 100)
			out, changes := v.do(t, 256, func(d *desk.Desk) []any { return []any{d.Needs(n, c.off, c.count)} })
			same(t, fmt.Sprintf("P13.4: Needs of %s, %d bytes at %d", c.what, c.count, c.off), out, []any{c.want})
			isPuts(t, "P13.4: Needs of "+l.what, changes)
		}
	}
}

// TestNeedsByChance: what it would take, less what it takes.
func TestNeedsByChance(t *testing.T) {
	r := newRand(131)
	for _, l := range layouts() {
		v, n := laid(t, l.blocks, l.list, 32768)
		for range 60 {
			off := r.Intn(32769) >> r.Intn(12)
			count := r.Intn(32769-off) >> r.Intn(12)
			was := blocksOf(v.slotsOf(n))
			then := blocksOf(v.slotsOf(n))
			for at := off; at < off+count; at++ {
				then[at/256] = true
			}
			out, _ := v.do(t, 256, func(d *desk.Desk) []any { return []any{d.Needs(n, off, count)} })
			same(t, fmt.Sprintf("P13.4: Needs of %s, %d bytes at %d", l.what, count, off), out, []any{takesOf(then) - takesOf(was)})
		}
	}
}

func TestRead(t *testing.T) {
	for _, l := range layouts() {
		for _, size := range []int{0, 1, 255, 256, 257, 700, 4095, 4096, 4097, 32767, 32768} {
			v, n := laid(t, l.blocks, l.list, size)
			all := v.bytesOf(n)[:size]
			for _, c := range [][2]int{
				{0, 0}, {0, 1}, {0, 256}, {0, 257}, {1, 255}, {1, 256}, {255, 2}, {256, 256}, {300, 9}, {0, 4096}, {3840, 257}, {4095, 1}, {4096, 1}, {4095, 2}, {4000, 1000},
				{0, 32768}, {1, 32767}, {32767, 1}, {32500, 268}, {size, 0}, {size, 10}, {size / 2, size - size/2}, {size / 2, size - size/2 + 1}, {max(size-1, 0), 1}, {max(size-1, 0), 2}, {32768, 0},
			} {
				off, count := c[0], c[1]
				var want []byte
				for at := off; at < off+count && at < size; at++ {
					want = append(want, all[at])
				}
				out, changes := v.do(t, 256, func(d *desk.Desk) []any {
					return []any{slices.Clone(d.Read(n, off, count))}
				})
				sameBytes(t, fmt.Sprintf("P13.4: Read of %s, size %d, %d bytes at %d", l.what, size, count, off), out[0].([]byte), want)
				isPuts(t, "P13.4: Read of "+l.what, changes)
			}
		}
	}
}

// TestReadIsNew: what was read may be written over.
func TestReadIsNew(t *testing.T) {
	v, n := laid(t, map[int]int{0: 9, 1: 10}, 0, 512)
	out, _ := v.do(t, 256, func(d *desk.Desk) []any {
		for range 2 {
			b := d.Read(n, 0, 512)
			b = b[:cap(b)]
			for k := range b {
				b[k] = 0xee
			}
		}
		return []any{d.Read(n, 0, 512)}
	})
	sameBytes(t, "P13.4: Read", out[0].([]byte), v.bytesOf(n)[:512])
}

// TestReadFar: of places and counts that may not be there is what there is, and never a panic.
func TestReadFar(t *testing.T) {
	v, n := laid(t, map[int]int{0: 9, 1: 10}, 0, 300)
	all := v.bytesOf(n)[:300]
	for _, c := range []struct {
		off, count int
		want       []byte
	}{
		{0, math.MaxInt, all}, {100, math.MaxInt, all[100:]}, {299, math.MaxInt - 5, all[299:]}, {0, 1 << 40, all}, {math.MaxInt, math.MaxInt, nil}, {math.MaxInt, 1, nil},
		{-1, 5, nil}, {math.MinInt, math.MaxInt, nil}, {0, -1, nil}, {0, math.MinInt, nil}, {300, 1, nil}, {1 << 32, 1, nil},
	} {
		out, _ := v.do(t, 256, func(d *desk.Desk) []any { return []any{d.Read(n, c.off, c.count)} })
		sameBytes(t, fmt.Sprintf("P13.4: Read %d bytes at %d", c.count, c.off), out[0].([]byte), c.want)
	}
}

// TestSee: what the view sees: what the source holds, and then what was put; no bytes count as a block of bytes 0.
func TestSee(t *testing.T) {
	v := volume{1: block(1), 2: nil, 3: text(1, 5), 4: {}, 255: make([]byte, 256)}
	for slot, want := range v {
		if len(want) == 0 {
			want = make([]byte, 256)
		}
		out, changes := v.do(t, 256, func(d *desk.Desk) []any {
			b := d.See(slot)
			mine := slices.Clone(b)
			for k := range b[:cap(b)] {
				b[:cap(b)][k] = 0xee
			}
			return []any{mine, d.See(slot)}
		})
		sameBytes(t, "P13.4: See", out[0].([]byte), want)
		sameBytes(t, "P13.4: See", out[1].([]byte), want)
		isPuts(t, "P13.4: See", changes)
	}
	out, _ := v.do(t, 256, func(d *desk.Desk) []any {
		r, _ := d.Make(file())
		at := d.Super().Inodes[r.Ino]
		made := d.See(at)
		d.Drop(r.Ino)
		return []any{at, made, d.See(at)}
	})
	n := file()
	n.Serial = 1
	same(t, "P13.4: See of what was put", out[:2], []any{1, packed(t, n)})
	sameBytes(t, "P13.4: See of what isn't used any more", out[2].([]byte), make([]byte, 256))
}

// TestNoBytesAreZeros: a slot that holds no bytes counts as bytes 0, in a block's place and in a list's.
func TestNoBytesAreZeros(t *testing.T) {
	for _, b := range [][]byte{nil, {}, make([]byte, 256)} {
		v, n := laid(t, map[int]int{0: 9, 1: 10, 16: 11}, 12, 5000)
		v[9] = b
		out, _ := v.do(t, 256, func(d *desk.Desk) []any {
			m := d.Write(n, 3, []byte{7})
			return []any{d.Read(n, 0, 257), d.Takes(n), m, d.Read(m, 0, 6)}
		})
		sameBytes(t, "P13.4: Read", out[0].([]byte), append([]byte{0, 0, 0, 7}, append(make([]byte, 252), text(10, 256)[0])...))
		same(t, "P13.4: Takes", out[1], 4)
		same(t, "P13.5: Write", out[2], n)
		sameBytes(t, "P13.5: Write", out[3].([]byte), []byte{0, 0, 0, 7, 0, 0})
		v, n = laid(t, map[int]int{0: 9, 1: 10, 16: 11}, 12, 5000)
		v[12] = b
		out, _ = v.do(t, 256, func(d *desk.Desk) []any {
			return []any{d.Slots(n)[16:], d.Takes(n), d.Needs(n, 4096, 1), d.Read(n, 4000, 1000)}
		})
		same(t, "P13.4: a list without bytes", out[:3], []any{make([]int, 112), 2, 2})
		sameBytes(t, "P13.4: Read", out[3].([]byte), make([]byte, 1000))
	}
}

// TestNoList: a block that is no list's tells of no slots; one that a write comes to has one then.
func TestNoList(t *testing.T) {
	for _, b := range [][]byte{block(1), text(1, 10), append(make([]byte, 255), 1)} {
		v, n := laid(t, map[int]int{0: 9}, 12, 5000)
		s := v.super(t)
		for slot := range 13 {
			s.Used[slot] = true
		}
		v[0], v[12] = packedSuper(t, s), b
		out, _ := v.do(t, 256, func(d *desk.Desk) []any {
			none := d.Takes(n)
			m := d.Write(n, 4096, []byte("x"))
			return []any{none, d.Takes(m), m, d.Read(m, 4095, 3)}
		})
		same(t, "P13.4: no list", out[:2], []any{1, 3})
		same(t, "P13.5: the same list's slot", out[2], n)
		sameBytes(t, "P13.5: Write", out[3].([]byte), []byte{0, 'x', 0})
		same(t, "P13.5: the list", v.slotsOf(n)[16], 13)
	}
}
