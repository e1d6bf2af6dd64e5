package dir_test

import (
	"bytes"
	"encoding/binary"
	"maps"
	"math"
	"math/rand"
	"slices"
	"strings"
	"testing"
	"unicode/utf8"

	"oubliette/api"
	"oubliette/dir"
)

func newRand(seed int64) *rand.Rand {
	return rand.New(rand.NewSource(seed))
}

// entry: one that may be, with a name and a cookie; its other fields hang on the cookie.
func entry(name string, cookie uint32) api.Entry {
	ref := api.Ref{Ino: 1 + int(cookie%64), Serial: 1000 + uint64(cookie)}
	return api.Entry{Name: name, Ref: ref, Kind: 1 + int(cookie%3), Cookie: cookie}
}

// named: a list with these names, whose cookies rise from 1 on.
func named(names ...string) []api.Entry {
	var l []api.Entry
	for k, name := range names {
		l = append(l, entry(name, uint32(k+1)))
	}
	return l
}

// names: so many names that rise, each of so many bytes.
func names(count, length int) []string {
	var out []string
	for k := range count {
		out = append(out, strings.Repeat("m", length-1)+string(rune('A'+k)))
	}
	return out
}

// runes: signs of one to four bytes, rising.
var runes = []string{" ", "!", "-", ".", "0", "A", "Z", "a", "b", "~", "\u0080", "é", "߿", "ࠀ", "\ud7ff", "\ue000", "\ufffd", "\uffff", "\U00010000", "\U0010ffff"}

// chance: a name that may be.
func chance(r *rand.Rand) string {
	for {
		name := ""
		for most := 1 + r.Intn(32); ; {
			x := runes[r.Intn(len(runes))]
			if len(name)+len(x) > most {
				break
			}
			name += x
		}
		if name != "" && name != "." && name != ".." {
			return name
		}
	}
}

// byRunes: how two texts stand to each other, rune by rune.
func byRunes(a, b string) int {
	return slices.Compare([]rune(a), []rune(b))
}

// list: a list of so many entries that may be, by chance.
func list(r *rand.Rand, count int) []api.Entry {
	had := map[string]bool{}
	for len(had) < count {
		had[chance(r)] = true
	}
	cookies := map[uint32]bool{}
	for len(cookies) < count {
		cookies[1+uint32(r.Intn(1<<r.Intn(31)))] = true
	}
	var l []api.Entry
	for _, name := range slices.SortedFunc(maps.Keys(had), byRunes) {
		l = append(l, api.Entry{Name: name})
	}
	free := slices.Sorted(maps.Keys(cookies))
	r.Shuffle(len(free), func(i, j int) { free[i], free[j] = free[j], free[i] })
	for k := range l {
		l[k].Ref = api.Ref{Ino: 1 + r.Intn(64), Serial: 1 + r.Uint64()>>r.Intn(64)>>1}
		l[k].Kind = 1 + r.Intn(3)
		l[k].Cookie = free[k]
	}
	return l
}

// nameMayBe: word by word of layer 1.
func nameMayBe(s string) bool {
	if s == "" || s == "." || s == ".." || len(s) > 32 || !utf8.ValidString(s) {
		return false
	}
	return !strings.ContainsFunc(s, func(r rune) bool { return r < 0x20 || r == 0x7f || r == '/' })
}

// mayBe: whether a list may be, word by word.
func mayBe(l []api.Entry) bool {
	if len(l) > 32 {
		return false
	}
	for k, e := range l {
		if !nameMayBe(e.Name) || e.Kind < 1 || e.Kind > 3 || e.Ref.Ino < 1 || e.Ref.Ino > 64 || e.Ref.Serial == 0 || e.Cookie == 0 {
			return false
		}
		if k > 0 && byRunes(l[k-1].Name, e.Name) >= 0 {
			return false
		}
		for _, other := range l[:k] {
			if other.Cookie == e.Cookie {
				return false
			}
		}
	}
	return true
}

// bytesOf: an entry's bytes.
func bytesOf(e api.Entry) []byte {
	b := []byte{byte(e.Ref.Ino), byte(e.Kind)}
	b = binary.LittleEndian.AppendUint64(b, e.Ref.Serial)
	b = binary.LittleEndian.AppendUint32(b, e.Cookie)
	b = binary.LittleEndian.AppendUint16(b, uint16(len(e.Name)))
	return append(b, e.Name...)
}

// leafOf: a block with that count and these entries' bytes.
func leafOf(count int, l ...api.Entry) []byte {
	b := []byte{byte(count)}
	for _, e := range l {
		b = append(b, bytesOf(e)...)
	}
	return append(b, make([]byte, 256-len(b))...)
}

// leavesOf: a list's leaves, may it be or not (of entries whose fields fit their bytes).
func leavesOf(l []api.Entry) [][]byte {
	var out [][]byte
	begin, room := 0, 255
	for k, e := range l {
		if n := len(bytesOf(e)); n > room {
			out = append(out, leafOf(k-begin, l[begin:k]...))
			begin, room = k, 255
		}
		room -= len(bytesOf(e))
	}
	if begin < len(l) {
		out = append(out, leafOf(len(l)-begin, l[begin:]...))
	}
	return out
}

// listOf: the list whose leaves blocks are, read place by place, and whether there is one.
func listOf(blocks [][]byte) ([]api.Entry, bool) {
	var l []api.Entry
	for _, b := range blocks {
		if len(b) != 256 {
			return nil, false
		}
		at := 1
		for range b[0] {
			if at+16 > 256 {
				return nil, false
			}
			var e api.Entry
			e.Ref.Ino, e.Kind = int(b[at]), int(b[at+1])
			e.Ref.Serial = binary.LittleEndian.Uint64(b[at+2:])
			e.Cookie = binary.LittleEndian.Uint32(b[at+10:])
			end := at + 16 + int(binary.LittleEndian.Uint16(b[at+14:]))
			if end > 256 {
				return nil, false
			}
			e.Name = string(b[at+16 : end])
			l = append(l, e)
			at = end
		}
	}
	if !mayBe(l) || !sameBlocks(leavesOf(l), blocks) {
		return nil, false
	}
	return l, true
}

func sameBlocks(a, b [][]byte) bool {
	return slices.EqualFunc(a, b, bytes.Equal)
}

func copied(blocks [][]byte) [][]byte {
	var out [][]byte
	for _, b := range blocks {
		out = append(out, bytes.Clone(b))
	}
	return out
}

// sameList: what should be the same list is.
func sameList(t *testing.T, what string, got, want []api.Entry) {
	t.Helper()
	if !slices.Equal(got, want) {
		t.Fatalf("%s: %v, not %v", what, got, want)
	}
}

// hasLeaves: a list has the leaves that it should have, and these are its.
func hasLeaves(t *testing.T, l []api.Entry) [][]byte {
	t.Helper()
	want := leavesOf(l)
	got, e := dir.Leaves(l)
	if e != api.OK || !sameBlocks(got, want) {
		t.Fatalf("P14.1: Leaves(%v): %x, %v; not %x", l, got, e, want)
	}
	parses(t, want, l)
	return got
}

// parses: blocks are a list's leaves.
func parses(t *testing.T, blocks [][]byte, want []api.Entry) {
	t.Helper()
	got, e := dir.Parse(blocks)
	if e != api.OK || !slices.Equal(got, want) {
		t.Fatalf("P14.1: Parse(%x): %v, %v; not %v", blocks, got, e, want)
	}
}

// noLeaves: a list may not be.
func noLeaves(t *testing.T, why string, l []api.Entry) {
	t.Helper()
	if got, e := dir.Leaves(l); e != api.ErrArg || len(got) != 0 {
		t.Fatalf("P14.1: %s: Leaves(%v): %x, %v; not ErrArg", why, l, got, e)
	}
}

// noList: blocks are no list's leaves.
func noList(t *testing.T, why string, blocks [][]byte) {
	t.Helper()
	if got, e := dir.Parse(blocks); e != api.IO || len(got) != 0 {
		t.Fatalf("P14.1: %s: Parse(%x): %v, %v; not IO", why, blocks, got, e)
	}
}

// changed: a copy of a list in which one entry is another one.
func changed(l []api.Entry, at int, f func(e *api.Entry)) []api.Entry {
	out := slices.Clone(l)
	f(&out[at])
	return out
}

// badNames: names that may not be.
func badNames() []string {
	return []string{
		"", ".", "..", "/", "a/b", "/a", "a/", "\x00", "a\x00", "\x1f", "a\nb", "\x7f", "a\x7f",
		"\xff", "\x80", "a\xc3", "\xc0\xaf", "\xed\xa0\x80", "\xf4\x90\x80\x80", "é\xa9",
		strings.Repeat("a", 33), strings.Repeat("é", 16) + "a", strings.Repeat("é", 17), strings.Repeat("a", 255), strings.Repeat("a", 256), strings.Repeat("a", 65535), strings.Repeat("a", 65536), strings.Repeat("a", 65537),
	}
}

// wrong is something that makes a list one that may not be, done to one entry of it.
type wrong struct {
	why string
	do  func(e *api.Entry)
}

// wrongs: what makes a list one that may not be, whichever entry it is done to.
func wrongs() []wrong {
	var out []wrong
	for _, name := range badNames() {
		out = append(out, wrong{"a name that may not be", func(e *api.Entry) { e.Name = name }})
	}
	for _, kind := range []int{0, 4, 5, -1, -3, 255, 256, 257, 258, math.MinInt, math.MaxInt, 1 << 32, 1<<32 + 1} {
		out = append(out, wrong{"a kind that there isn't", func(e *api.Entry) { e.Kind = kind }})
	}
	for _, ino := range []int{0, -1, -64, 65, 66, 255, 256, 257, 320, math.MinInt, math.MaxInt, 1 << 32, 1<<32 + 1} {
		out = append(out, wrong{"a number of no inode", func(e *api.Entry) { e.Ref.Ino = ino }})
	}
	out = append(out, wrong{"no serial", func(e *api.Entry) { e.Ref.Serial = 0 }})
	return append(out, wrong{"no cookie", func(e *api.Entry) { e.Cookie = 0 }})
}

// spare: a copy of a list with spare room behind it, and what tells whether list and room are as they were.
func spare(l []api.Entry) ([]api.Entry, func() bool) {
	room := entry("spare", 77)
	all := append(slices.Clone(l), room, room, room)
	was := slices.Clone(all)
	return all[:len(l)], func() bool { return slices.Equal(all, was) }
}

// scrub: each entry is another one.
func scrub(l []api.Entry) {
	for k := range l {
		l[k] = entry("scrubbed", 99)
	}
}

// scrubAll: likewise, the room behind them, too.
func scrubAll(l []api.Entry) {
	scrub(l[:cap(l)])
}
