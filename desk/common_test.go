package desk_test

import (
	"bytes"
	"encoding/binary"
	"maps"
	"math"
	"math/rand"
	"reflect"
	"slices"
	"testing"

	"oubliette/api"
	"oubliette/desk"
	"oubliette/grant"
	"oubliette/inode"
	"oubliette/view"
)

// volume is what slots hold; what isn't there holds no bytes.
type volume map[int][]byte

func (v volume) copied() volume {
	out := volume{}
	for slot, b := range v {
		out[slot] = bytes.Clone(b)
	}
	return out
}

// apply: the slots hold what was put.
func (v volume) apply(puts []api.Put) {
	for _, p := range puts {
		v[p.Slot] = bytes.Clone(p.Block)
	}
}

// source is a volume as far as its slots are known.
type source struct {
	v     volume
	known map[int]bool // nil: all
}

func (s source) get(slot int) ([]byte, bool) {
	if s.known == nil || s.known[slot] {
		return s.v[slot], true
	}
	return nil, false
}

// again: a function is run till it comes to its end, each time with the slot that it wanted known. Which slots it wanted.
func again(t *testing.T, s source, v *view.View, f func()) []int {
	t.Helper()
	var wanted []int
	for {
		slot, ok := v.Run(f)
		if ok {
			return wanted
		}
		if s.known == nil || s.known[slot] {
			t.Fatalf("P12.2: slot %d is wanted, but known", slot)
		}
		if slot < 0 || slot > 255 {
			t.Fatalf("P13: slot %d is wanted", slot)
		}
		s.known[slot] = true
		wanted = append(wanted, slot)
	}
}

// way is how a function comes to its end: with which slots known, and with one desk for all its runs, or with one for each.
type way struct {
	name  string
	known bool
	one   bool
}

var ways = []way{{"known, one desk", true, true}, {"known", true, false}, {"wanted, one desk", false, true}, {"wanted", false, false}}

// do: what a function answers and puts over a volume, in each way the same; the volume holds it then.
func (v volume) do(t *testing.T, slots int, f func(d *desk.Desk) []any) ([]any, []api.Put) {
	t.Helper()
	var answers []any
	var puts []api.Put
	for k, w := range ways {
		was := v.copied()
		s := source{v: v, known: map[int]bool{}}
		if w.known {
			s.known = nil
		}
		x := view.New(s.get)
		d := desk.New(x, slots)
		var got []any
		again(t, s, x, func() {
			if !w.one {
				d = desk.New(x, slots)
			}
			got = f(d)
		})
		if k == 0 {
			answers, puts = got, x.Changes()
		}
		if !reflect.DeepEqual(got, answers) {
			t.Fatalf("P13: %s: answers %v, not %v", w.name, got, answers)
		}
		if !samePuts(x.Changes(), puts) {
			t.Fatalf("P13: %s: puts %v, not %v", w.name, x.Changes(), puts)
		}
		if !maps.EqualFunc(v, was, bytes.Equal) {
			t.Fatalf("P13: %s: what the source holds was changed", w.name)
		}
	}
	v.apply(puts)
	return answers, puts
}

func samePuts(a, b []api.Put) bool {
	return slices.EqualFunc(a, b, func(x, y api.Put) bool {
		return x.Slot == y.Slot && bytes.Equal(x.Block, y.Block)
	})
}

// super: the volume's super.
func (v volume) super(t *testing.T) api.Super {
	t.Helper()
	if len(v[0]) == 0 || bytes.Equal(v[0], make([]byte, 256)) {
		return grant.New()
	}
	s, e := grant.Unpack(v[0])
	if e != api.OK {
		t.Fatalf("P13.1: slot 0 holds no super: %x", v[0])
	}
	return s
}

// slotsOf: the slots of a file's blocks, word by word of layer 11.
func (v volume) slotsOf(n api.Inode) [128]int {
	var out [128]int
	for k := range out {
		switch {
		case k < 16:
			out[k] = n.Slots[k]
		case n.List != 0 && len(v[n.List]) > 0:
			out[k] = int(binary.LittleEndian.Uint16(v[n.List][2*(k-16):]))
		}
	}
	return out
}

// bytesOf: a file's bytes, and those behind its size up to MaxFile.
func (v volume) bytesOf(n api.Inode) []byte {
	var out []byte
	for _, slot := range v.slotsOf(n) {
		b := make([]byte, 256)
		if slot != 0 {
			copy(b, v[slot])
		}
		out = append(out, b...)
	}
	return out
}

// same: what should be the same is.
func same(t *testing.T, what string, got, want any) {
	t.Helper()
	if !reflect.DeepEqual(got, want) {
		t.Fatalf("%s: %v, not %v", what, got, want)
	}
}

// sameBytes: likewise, of bytes; of no bytes nil is the same as an empty list.
func sameBytes(t *testing.T, what string, got, want []byte) {
	t.Helper()
	if !bytes.Equal(got, want) {
		t.Fatalf("%s: %x, not %x", what, got, want)
	}
}

// puts: a list of slots and blocks in turn, as puts.
func puts(list ...any) []api.Put {
	var out []api.Put
	for k := 0; k < len(list); k += 2 {
		p := api.Put{Slot: list[k].(int)}
		if list[k+1] != nil {
			p.Block = list[k+1].([]byte)
		}
		out = append(out, p)
	}
	return out
}

// isPuts: what was put is what should be, whatever was put ahead of it.
func isPuts(t *testing.T, what string, got []api.Put, want ...any) {
	t.Helper()
	if !samePuts(got, puts(want...)) {
		t.Fatalf("%s: puts %v, not %v", what, got, puts(want...))
	}
}

// nothing, of a slot that isn't used any more.
var nothing any

// block: a whole block whose every byte is that.
func block(c byte) []byte {
	return bytes.Repeat([]byte{c}, api.BlockLen)
}

// text: so many bytes, none of them 0, unlike at each place of a block.
func text(seed, n int) []byte {
	out := make([]byte, n)
	for k := range out {
		out[k] = byte(1 + (seed*31+k*7+k/251)%255)
	}
	return out
}

func file() api.Inode {
	return api.Inode{Kind: api.File, Mode: 0o644, Uid: 3, Gid: 4, Links: 1, Version: 7}
}

func packed(t *testing.T, n api.Inode) []byte {
	t.Helper()
	b, e := inode.Pack(n)
	if e != api.OK {
		t.Fatalf("P11.1: %v: %v", n, e)
	}
	return b
}

func packedSuper(t *testing.T, s api.Super) []byte {
	t.Helper()
	b, e := grant.Pack(s)
	if e != api.OK {
		t.Fatalf("P10.1: %v: %v", s, e)
	}
	return b
}

func packedList(t *testing.T, at map[int]int) []byte {
	t.Helper()
	var l [api.Listed]int
	for k, slot := range at {
		l[k-16] = slot
	}
	b, e := inode.PackList(l)
	if e != api.OK {
		t.Fatalf("P11.2: %v: %v", l, e)
	}
	return b
}

// made: a file more, whose bytes these are, each list of them written from where it says.
func (v volume) made(t *testing.T, slots int, parts map[int][]byte) (api.Ref, api.Inode) {
	t.Helper()
	out, _ := v.do(t, slots, func(d *desk.Desk) []any {
		r, e := d.Make(file())
		if e != api.OK {
			t.Fatalf("P13.3: Make: %v", e)
		}
		n, e := d.Get(r)
		if e != api.OK {
			t.Fatalf("P13.2: Get: %v", e)
		}
		for _, off := range slices.Sorted(maps.Keys(parts)) {
			n = d.Write(n, off, parts[off])
		}
		d.Set(r.Ino, n)
		d.Save()
		return []any{r, n}
	})
	return out[0].(api.Ref), out[1].(api.Inode)
}

// used: how many slots are used.
func (v volume) used(t *testing.T) int {
	t.Helper()
	return grant.Count(v.super(t))
}

// sound: the super's slots are its own, its inodes', and those of their blocks and lists, each for one of them; no list is there without a block; what isn't used holds no bytes.
func (v volume) sound(t *testing.T) {
	t.Helper()
	s := v.super(t)
	whose := map[int]string{0: "super"}
	claim := func(slot int, by string) {
		if other, ok := whose[slot]; ok {
			t.Fatalf("P13.6: slot %d is the %s's and the %s's", slot, other, by)
		}
		whose[slot] = by
	}
	for ino, at := range s.Inodes {
		if at == 0 {
			continue
		}
		claim(at, "inode")
		n, e := inode.Unpack(v[at])
		if e != api.OK {
			t.Fatalf("P13.2: inode %d: %v", ino, e)
		}
		listed := false
		for k, slot := range v.slotsOf(n) {
			if slot != 0 {
				claim(slot, "block")
				listed = listed || k >= 16
			}
		}
		if listed != (n.List != 0) {
			t.Fatalf("P13.5: inode %d: list %d, but %v", ino, n.List, listed)
		}
		if n.List != 0 {
			claim(n.List, "list")
		}
		if rest := v.bytesOf(n)[n.Size:]; !bytes.Equal(rest, make([]byte, len(rest))) {
			t.Fatalf("P13.5: inode %d has bytes behind its size", ino)
		}
	}
	for slot := range 256 {
		if _, ok := whose[slot]; ok != s.Used[slot] {
			t.Fatalf("P13.6: slot %d: used %v, but %q", slot, s.Used[slot], whose[slot])
		}
	}
}

// dirty: all slots but slot 0 hold other bytes, as if they had been used.
func dirty(slots int) volume {
	v := volume{}
	for slot := 1; slot < slots; slot++ {
		v[slot] = text(slot, 256)
	}
	return v
}

// odd: numbers that are no inode's, no size, no place.
func odd() []int {
	return []int{math.MinInt, math.MinInt + 1, -1 << 32, math.MinInt32, -256, -1, 1 << 32, math.MaxInt32, math.MaxInt - 255, math.MaxInt - 1, math.MaxInt}
}

func newRand(seed int64) *rand.Rand {
	return rand.New(rand.NewSource(seed))
}
