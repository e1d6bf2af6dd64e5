package dir_test

import (
	"bytes"
	"fmt"
	"math"
	"slices"
	"strings"
	"testing"

	"oubliette/api"
	"oubliette/dir"
)

// TestLeavesBytes: leaves written byte by byte.
func TestLeavesBytes(t *testing.T) {
	first := api.Entry{Name: "aé", Ref: api.Ref{Ino: 5, Serial: 0x0102030405060708}, Kind: api.Dir, Cookie: 0x0a0b0c0d}
	second := api.Entry{Name: "b", Ref: api.Ref{Ino: 64, Serial: 9}, Kind: api.Symlink, Cookie: 1}
	want := make([]byte, 256)
	copy(want, "\x01\x05\x02\x08\x07\x06\x05\x04\x03\x02\x01\x0d\x0c\x0b\x0a\x03\x00a\xc3\xa9")
	got, e := dir.Leaves([]api.Entry{first})
	if e != api.OK || len(got) != 1 || !bytes.Equal(got[0], want) {
		t.Fatalf("P14.1: %x, %v", got, e)
	}
	parses(t, [][]byte{want}, []api.Entry{first})
	want[0] = 2
	copy(want[20:], "\x40\x03\x09\x00\x00\x00\x00\x00\x00\x00\x01\x00\x00\x00\x01\x00b")
	got, e = dir.Leaves([]api.Entry{first, second})
	if e != api.OK || len(got) != 1 || !bytes.Equal(got[0], want) {
		t.Fatalf("P14.1: %x, %v", got, e)
	}
	parses(t, [][]byte{want}, []api.Entry{first, second})
}

// TestLeavesExamples: the chapter's own.
func TestLeavesExamples(t *testing.T) {
	for count, leaves := range []int{0, 1, 1, 1, 1, 1, 2, 2, 2, 2, 2, 3} {
		if got := hasLeaves(t, named(names(count, 32)...)); len(got) != leaves {
			t.Fatalf("P14.1: %d entries with names of 32 bytes: %d leaves", count, len(got))
		}
	}
	got, _ := dir.Leaves(named(names(6, 32)...))
	if got[0][0] != 5 || got[0][240] != 'E' || !bytes.Equal(got[0][241:], make([]byte, 15)) || got[1][0] != 1 {
		t.Fatalf("P14.1: six entries: %x", got)
	}
}

// TestNoEntries: no leaves, and the other way round.
func TestNoEntries(t *testing.T) {
	for _, l := range [][]api.Entry{nil, {}, named("a")[:0]} {
		if got, e := dir.Leaves(l); e != api.OK || len(got) != 0 {
			t.Fatalf("P14.1: Leaves of no entries: %x, %v", got, e)
		}
	}
	for _, blocks := range [][][]byte{nil, {}, [][]byte{block(0)}[:0]} {
		if got, e := dir.Parse(blocks); e != api.OK || len(got) != 0 {
			t.Fatalf("P14.1: Parse of no blocks: %v, %v", got, e)
		}
	}
}

// TestCountsAndLengths: so many entries with names of so many bytes each, for each of both.
func TestCountsAndLengths(t *testing.T) {
	for count := range 33 {
		for length := 1; length <= 32; length++ {
			got := hasLeaves(t, named(names(count, length)...))
			fit := 255 / (16 + length)
			if want := (count + fit - 1) / fit; len(got) != want {
				t.Fatalf("P14.1: %d entries with names of %d bytes: %d leaves, not %d", count, length, len(got), want)
			}
		}
	}
}

// TestToTheByte: a leaf that is full to the byte, or has a few more or less; the next entry is the next leaf's.
func TestToTheByte(t *testing.T) {
	for _, c := range []struct {
		lengths []int
		counts  []byte
	}{
		{slices.Repeat([]int{1}, 15), []byte{15}}, // 15 times 17: 255
		{append(slices.Repeat([]int{1}, 14), 2), []byte{14, 1}},
		{append([]int{2}, slices.Repeat([]int{1}, 14)...), []byte{14, 1}},
		{slices.Repeat([]int{1}, 16), []byte{15, 1}},
		{slices.Repeat([]int{1}, 30), []byte{15, 15}},
		{slices.Repeat([]int{1}, 32), []byte{15, 15, 2}},
		{slices.Repeat([]int{32}, 32), []byte{5, 5, 5, 5, 5, 5, 2}},
		{[]int{32, 32, 32, 32, 5, 5, 5}, []byte{7}}, // 192 and 63: 255
		{[]int{32, 32, 32, 32, 5, 5, 4}, []byte{7}},
		{[]int{32, 32, 32, 32, 5, 5, 6}, []byte{6, 1}},
		{[]int{32, 32, 32, 32, 5, 5, 5, 1}, []byte{7, 1}},
		{[]int{32, 32, 32, 32, 32, 1}, []byte{5, 1}}, // 240, and 17 more
		{[]int{32, 32, 32, 32, 30, 1}, []byte{6}},    // 238, and 17 more: 255
		{[]int{32, 32, 32, 32, 31, 1}, []byte{5, 1}},
		{[]int{1, 32, 32, 32, 32, 32, 1, 32}, []byte{5, 3}},
		{slices.Repeat([]int{35 - 16, 32}, 3), []byte{6}}, // 3 times 35 and 48: 249
	} {
		var l []api.Entry
		for k, length := range c.lengths {
			l = append(l, entry(string(rune('A'+k))+strings.Repeat("x", length-1), uint32(100-k)))
		}
		var counts []byte
		for _, b := range hasLeaves(t, l) {
			counts = append(counts, b[0])
		}
		if !bytes.Equal(counts, c.counts) {
			t.Fatalf("P14.1: names of %v bytes: leaves of %v entries, not %v", c.lengths, counts, c.counts)
		}
	}
}

// TestFields: the least and the greatest of each field, each kind, names of all kinds of runes.
func TestFields(t *testing.T) {
	for _, kind := range []int{api.File, api.Dir, api.Symlink} {
		for _, ino := range []int{1, 2, 63, 64} {
			for _, serial := range []uint64{1, 255, 256, 1 << 32, 1 << 63, math.MaxUint64} {
				for _, cookie := range []uint32{1, 255, 256, 1 << 31, math.MaxUint32} {
					e := api.Entry{Name: "n", Ref: api.Ref{Ino: ino, Serial: serial}, Kind: kind, Cookie: cookie}
					hasLeaves(t, []api.Entry{e})
				}
			}
		}
	}
	for _, x := range runes {
		for n := 1; n*len(x) <= 32; n++ {
			if name := strings.Repeat(x, n); nameMayBe(name) {
				hasLeaves(t, named(name))
			}
		}
	}
	hasLeaves(t, named(" ", "!", "-", "...", "0", "A", "AA", "Z", "a", "a ", "aa", "b", "~", "\u0080", "é", "éa", "\ud7ff", "\ue000", "\ufffd", "\uffff", "\U00010000", "\U0010ffff"))
	alike := []api.Entry{entry("a", 1), entry("b", 2), entry("c", 3)}
	for k := range alike {
		alike[k].Ref, alike[k].Kind = api.Ref{Ino: 7, Serial: 7}, api.File
	}
	hasLeaves(t, alike)
}

// TestCookiesInAnyOrder: cookies needn't rise as names do.
func TestCookiesInAnyOrder(t *testing.T) {
	for seed := range int64(200) {
		l := named(names(32, 3)...)
		newRand(seed).Shuffle(len(l), func(i, j int) { l[i].Cookie, l[j].Cookie = l[j].Cookie, l[i].Cookie })
		hasLeaves(t, l)
	}
}

// TestTooMany: 33 entries, and more.
func TestTooMany(t *testing.T) {
	hasLeaves(t, named(names(32, 1)...))
	for _, count := range []int{33, 34, 64, 1000} {
		noLeaves(t, fmt.Sprint(count, " entries"), named(names(count, 2)...))
	}
	blocks := leavesOf(named(names(33, 1)...))
	noList(t, "33 entries", blocks)
	blocks = nil
	for _, e := range named(names(33, 32)...) {
		blocks = append(blocks, leafOf(1, e))
	}
	noList(t, "33 leaves", blocks)
}

// TestWrongEntries: one entry that may not be, the first, a middle or the last one, in lists of all lengths.
func TestWrongEntries(t *testing.T) {
	for _, count := range []int{1, 2, 3, 6, 16, 32} {
		l := named(names(count, 4)...)
		hasLeaves(t, l)
		for _, w := range wrongs() {
			for at := range l {
				noLeaves(t, w.why, changed(l, at, w.do))
			}
		}
	}
}

// TestWrongNamesInOrder: names that may not be, where they rise all the same.
func TestWrongNamesInOrder(t *testing.T) {
	for _, name := range badNames() {
		l := named(name)
		noLeaves(t, "a name that may not be", l)
		l = append(l, entry("zz", 90), entry("zzz", 91))
		noLeaves(t, "a name that may not be", l)
		slices.SortFunc(l, func(a, b api.Entry) int { return byRunes(a.Name, b.Name) })
		noLeaves(t, "a name that may not be", l)
	}
}

// TestNamesDontRise: neighbours the other way round, names that stand twice.
func TestNamesDontRise(t *testing.T) {
	for _, count := range []int{2, 3, 6, 32} {
		l := named(names(count, 4)...)
		for i := range l {
			for j := range l {
				if i == j {
					continue
				}
				twice := changed(l, i, func(e *api.Entry) { e.Name = l[j].Name })
				noLeaves(t, "a name that stands twice", twice)
				turned := changed(twice, j, func(e *api.Entry) { e.Name = l[i].Name })
				noLeaves(t, "names that don't rise", turned)
			}
		}
	}
	noLeaves(t, "names that don't rise", named("b", "a"))
	noLeaves(t, "names that don't rise", named("aa", "a"))
	noLeaves(t, "names that don't rise", named("a", "B"))
	noLeaves(t, "names that don't rise", named("é", "z"))
	noLeaves(t, "names that don't rise", named("\U00010000", "\uffff"))
	noLeaves(t, "names that don't rise", named("b", "c", "a"))
	noLeaves(t, "a name that stands twice", []api.Entry{entry("a", 1), entry("a", 1)})
}

// TestCookiesAlike: any two of them.
func TestCookiesAlike(t *testing.T) {
	for _, count := range []int{2, 3, 6, 32} {
		l := named(names(count, 4)...)
		for i := range l {
			for j := range l {
				if i != j {
					noLeaves(t, "two cookies alike", changed(l, i, func(e *api.Entry) { e.Cookie = l[j].Cookie }))
				}
			}
		}
	}
	l := named("a", "b")
	l[0].Cookie, l[1].Cookie = math.MaxUint32, math.MaxUint32
	noLeaves(t, "two cookies alike", l)
}

// TestLeavesByChance: lists of all lengths by chance, good ones, and ones in which something is another one.
func TestLeavesByChance(t *testing.T) {
	r := newRand(14)
	for turn := range 4000 {
		l := list(r, turn%33)
		hasLeaves(t, l)
		for range min(len(l), 8) {
			m := changed(l, r.Intn(len(l)), func(e *api.Entry) {
				switch other := l[r.Intn(len(l))]; r.Intn(5) {
				case 0:
					e.Name = []string{chance(r), other.Name, other.Name + "a", e.Name[1:]}[r.Intn(4)]
				case 1:
					e.Cookie = []uint32{other.Cookie, r.Uint32(), 0}[r.Intn(3)]
				case 2:
					e.Kind = r.Intn(6) - 1
				case 3:
					e.Ref.Ino = r.Intn(70) - 2
				default:
					e.Ref.Serial = uint64(r.Intn(3))
				}
			})
			if mayBe(m) {
				hasLeaves(t, m)
			} else {
				noLeaves(t, "by chance", m)
			}
		}
	}
}

// TestLeavesAreNew: no two leaves share memory, nor with a later answer; the list stays as it was.
func TestLeavesAreNew(t *testing.T) {
	for _, count := range []int{0, 1, 5, 6, 32} {
		l, asItWas := spare(named(names(count, 32)...))
		want := leavesOf(l)
		got, _ := dir.Leaves(l)
		other, _ := dir.Leaves(l)
		for k := range got {
			if !bytes.Equal(got[k], want[k]) {
				t.Fatalf("P14.1: leaf %d shares memory with one ahead of it", k)
			}
			b := got[k][:cap(got[k])]
			for i := range b {
				b[i] = 0xee
			}
		}
		if !sameBlocks(other, want) || !asItWas() {
			t.Fatal("P14.1: leaves share memory, or the list was changed")
		}
		scrub(l)
		if !sameBlocks(other, want) {
			t.Fatal("P14.1: leaves share memory with the list")
		}
	}
}
