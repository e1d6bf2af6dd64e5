package desk_test

import (
	"bytes"
	"fmt"
	"math/rand"
	"testing"

	"oubliette/api"
	"oubliette/desk"
	"oubliette/grant"
)

// plain is a file as an array of bytes: those up to MaxFile, its size, and which blocks it has.
type plain struct {
	n      api.Inode
	bytes  []byte
	blocks map[int]bool
}

// state is what a script has made: files, by their names.
type state struct {
	files map[api.Ref]*plain
	names []api.Ref // in the order of their making
	dead  []api.Ref
}

func (s *state) used() int {
	sum := 1
	for _, p := range s.files {
		sum += 1 + takesOf(p.blocks)
	}
	return sum
}

// copied: so that a step may be done again.
func (s *state) copied() *state {
	out := &state{files: map[api.Ref]*plain{}}
	for r, p := range s.files {
		blocks := map[int]bool{}
		for k := range p.blocks {
			blocks[k] = true
		}
		out.files[r] = &plain{p.n, bytes.Clone(p.bytes), blocks}
	}
	out.names = append(out.names, s.names...)
	out.dead = append(out.dead, s.dead...)
	return out
}

// place: a place of a file, often at a block's end, or at the list's beginning.
func place(r *rand.Rand) int {
	at := r.Intn(32769)
	switch r.Intn(6) {
	case 0:
		at = r.Intn(600)
	case 1:
		at = 256 * r.Intn(129)
	case 2:
		at = 256*r.Intn(128) + 255
	case 3:
		at = 4096 - 300 + r.Intn(600)
	case 4:
		at = 256*(1+r.Intn(20)) - r.Intn(3)
	}
	return at
}

// step: something is done by a desk and to the plain files, and held against each other.
func (s *state) step(t *testing.T, d *desk.Desk, slots int, r *rand.Rand) {
	room := min(slots, 256) - s.used()
	switch k := r.Intn(10); {
	case k == 0 || len(s.names) == 0:
		s.make(t, d, room)
	case k == 1 && r.Intn(3) == 0:
		s.drop(d, r)
	case k < 6:
		s.write(t, d, room, r)
	case k < 9:
		s.cut(d, r)
	default:
		d.Save()
	}
}

func (s *state) make(t *testing.T, d *desk.Desk, room int) {
	n := file()
	n.Uid = uint32(len(s.names))
	ref, e := d.Make(n)
	want := api.OK
	switch {
	case len(s.files) == api.MaxInodes:
		want = api.NoFile
	case room < 1:
		want = api.NoSpace
	}
	if e != want {
		t.Fatalf("P13.3: Make: %v, not %v", e, want)
	}
	if e != api.OK {
		return
	}
	n.Serial = ref.Serial
	s.files[ref] = &plain{n, make([]byte, 32768), map[int]bool{}}
	s.names = append(s.names, ref)
}

func (s *state) drop(d *desk.Desk, r *rand.Rand) {
	k := r.Intn(len(s.names))
	ref := s.names[k]
	d.Drop(ref.Ino)
	delete(s.files, ref)
	s.names = append(s.names[:k:k], s.names[k+1:]...)
	s.dead = append(s.dead, ref)
}

func (s *state) write(t *testing.T, d *desk.Desk, room int, r *rand.Rand) {
	ref := s.names[r.Intn(len(s.names))]
	p := s.files[ref]
	off := place(r)
	b := make([]byte, r.Intn(32769-off)>>r.Intn(15))
	r.Read(b)
	bytesThen, blocksThen := written(p.bytes, p.blocks, off, b)
	needs := takesOf(blocksThen) - takesOf(p.blocks)
	if got := d.Needs(p.n, off, len(b)); got != needs {
		t.Fatalf("P13.4: Needs %d, not %d", got, needs)
	}
	if needs > room {
		return
	}
	p.bytes, p.blocks = bytesThen, blocksThen
	size := p.n.Size
	p.n = d.Write(p.n, off, b)
	if len(b) > 0 {
		size = max(size, off+len(b))
	}
	if p.n.Size != size {
		t.Fatalf("P13.5: size %d, not %d", p.n.Size, size)
	}
	d.Set(ref.Ino, p.n)
}

func (s *state) cut(d *desk.Desk, r *rand.Rand) {
	ref := s.names[r.Intn(len(s.names))]
	p := s.files[ref]
	size := place(r)
	if r.Intn(8) == 0 {
		size = 0
	}
	clear(p.bytes[size:])
	for k := range p.blocks {
		if 256*k >= size {
			delete(p.blocks, k)
		}
	}
	p.n = d.Cut(p.n, size)
	d.Set(ref.Ino, p.n)
}

// check: each file is what its plain array is, and no others are there.
func (s *state) check(t *testing.T, d *desk.Desk, r *rand.Rand) {
	for _, ref := range s.names {
		p := s.files[ref]
		n, e := d.Get(ref)
		if n != p.n || e != api.OK {
			t.Fatalf("P13.2: Get %v: %v, %v; not %v", ref, n, e, p.n)
		}
		if got := d.Takes(n); got != takesOf(p.blocks) {
			t.Fatalf("P13.6: Takes %d, not %d", got, takesOf(p.blocks))
		}
		for k, slot := range d.Slots(n) {
			if (slot != 0) != p.blocks[k] {
				t.Fatalf("P13.4: block %d: slot %d, but %v", k, slot, p.blocks[k])
			}
		}
		off, count := place(r), place(r)
		want := p.bytes[min(off, n.Size):min(off+count, n.Size)]
		if got := d.Read(n, off, count); !bytes.Equal(got, want) {
			t.Fatalf("P13.6: Read of %d at %d", count, off)
		}
		if got := d.Read(n, 0, n.Size); !bytes.Equal(got, p.bytes[:n.Size]) {
			t.Fatalf("P13.6: Read of all")
		}
	}
	for _, ref := range s.dead {
		if _, e := d.Get(ref); e != api.Stale {
			t.Fatalf("P13.2: Get of a dropped inode: %v", e)
		}
	}
	super := d.Super()
	if got := grant.Count(super); got != s.used() {
		t.Fatalf("P13.6: %d slots are used, not %d", got, s.used())
	}
	if got := grant.Inodes(super); got != len(s.files) {
		t.Fatalf("P13.3: %d inodes, not %d", got, len(s.files))
	}
}

// TestByChance: scripts of some steps each in a run, one behind the other, over volumes of many lengths.
func TestByChance(t *testing.T) {
	for k, slots := range []int{1, 2, 3, 5, 8, 16, 40, 64, 200, 256, 256, 256, 300} {
		t.Run(fmt.Sprint(slots, k), func(t *testing.T) {
			t.Parallel()
			v := dirty(256)
			now := &state{files: map[api.Ref]*plain{}}
			for turn := range 25 {
				seed := int64(1000*k + turn)
				var then *state
				v.do(t, slots, func(d *desk.Desk) []any {
					then = now.copied()
					r := newRand(seed)
					for range 1 + r.Intn(8) {
						then.step(t, d, slots, r)
					}
					then.check(t, d, r)
					d.Save()
					return nil
				})
				now = then
				v.sound(t)
				for slot := max(slots, 1); slot < 256; slot++ {
					if !bytes.Equal(v[slot], text(slot, 256)) {
						t.Fatalf("P13.5: slot %d of %d was put", slot, slots)
					}
				}
			}
			v.do(t, slots, func(d *desk.Desk) []any {
				for _, ref := range now.names {
					d.Drop(ref.Ino)
				}
				d.Save()
				return nil
			})
			if v.used(t) != 1 {
				t.Fatalf("P13.6: %d slots are used behind the last drop", v.used(t))
			}
		})
	}
}

// TestOneRun: many steps in one run, all of whose slots are known.
func TestOneRun(t *testing.T) {
	v := dirty(256)
	now := &state{files: map[api.Ref]*plain{}}
	r := newRand(5)
	d, x := v.desk(256)
	again(t, source{v: v}, x, func() {
		for range 400 {
			now.step(t, d, 256, r)
			now.check(t, d, r)
		}
		d.Save()
	})
	v.apply(x.Changes())
	v.sound(t)
}
