package plain_test

import (
	"math"
	"math/rand"
	"testing"

	"oubliette/api"
	"oubliette/plain"
)

// loadOf: the state of an image.
func loadOf(i api.Image) *plain.FS { return plain.Load(i, plenty) }

// TestLoad: the state of an image has that image, and answers as the one whose image it was.
func TestLoad(t *testing.T) {
	r := newRand(16)
	p := rich(t)
	for turn := range 150 {
		slots := plenty
		if turn%3 == 0 {
			slots = p.f.Footprint() + r.Intn(5)
		}
		q := p.again(slots)
		q.held("Load")
		if s := differ(plain.Load(q.f.Image(), slots).Image(), p.f.Image()); s != "" {
			t.Fatalf("P16.1: Load: %s", s)
		}
		// From here on q goes its own way, as the words say it; p stays as it was.
		was := p.f.Image()
		for range 15 {
			q.ask(some(r, q.m, 1+r.Intn(19)))
		}
		q.held("operations of a state that Load made")
		if s := differ(p.f.Image(), was); s != "" {
			t.Fatalf("P16.2: what is done to a loaded state is done to the other one: %s", s)
		}
		p.do(some(r, p.m, 1+r.Intn(19)))
	}
}

// spoil: all of an image is written over.
func spoil(i api.Image) {
	for k := range i.Nodes {
		n := &i.Nodes[k]
		for b, block := range n.Blocks {
			for at := range block[:cap(block)] {
				block[:cap(block)][at] ^= 0xff
			}
			delete(n.Blocks, b)
		}
		if n.Blocks != nil {
			n.Blocks[7] = make([]byte, 256)
		}
		for e := range n.Entries[:cap(n.Entries)] {
			n.Entries[:cap(n.Entries)][e] = api.Entry{Name: "over"}
		}
		*n = api.Node{}
	}
}

// TestMemory: whatever is changed in what was handed in or answered changes nothing in the state.
func TestMemory(t *testing.T) {
	p := rich(t)
	spoil(p.f.Image())
	p.held("an image that was written over")
	i := p.f.Image()
	f := plain.Load(i, plenty)
	spoil(i)
	q := &pair{t, f, p.m}
	q.held("Load, whose image was written over")
	// Two images share nothing.
	a, b := f.Image(), f.Image()
	spoil(a)
	if s := differ(b, p.m.image()); s != "" {
		t.Errorf("P16.2: two images: %s", s)
	}
	// Of what an operation is handed and answers, each ask does likewise; what is read twice shares nothing either.
	n := p.in(rootRef, "a")
	read := api.Op{Kind: api.OpRead, Ref: n, Count: 9000}
	x, y := p.f.Do(read), p.f.Do(read)
	scribble(handed(api.Op{}), x)
	if !sameRes(y, p.m.do(read)) {
		t.Errorf("P16.2: two answers: %s", text(y))
	}
}

// odd: an image that no state has, of any numbers.
func odd(r *rand.Rand) api.Image {
	number := func() int {
		if r.Intn(3) == 0 {
			return one(r, []int{-1, 0, 64, 65, 255, 256, 32768, 32769, math.MinInt, math.MaxInt})
		}
		return r.Intn(5)
	}
	i := api.Image{Serial: uint64(number())}
	for k := range r.Intn(6) {
		ino := k + 1
		if r.Intn(12) == 0 {
			ino = number()
		}
		n := api.Node{Parent: number(), Cookie: uint32(number())}
		n.Attr = api.Attr{Ref: api.Ref{Ino: ino, Serial: uint64(ino)}, Kind: r.Intn(5), Mode: number(), Uid: uint32(number()), Links: number(), Size: number(), Blocks: number()}
		for range r.Intn(3) {
			if n.Blocks == nil {
				n.Blocks = map[int][]byte{}
			}
			n.Blocks[number()] = make([]byte, r.Intn(600))
		}
		for range r.Intn(4) {
			ino := number()
			n.Entries = append(n.Entries, api.Entry{Name: one(r, []string{"a", "b", "..", "", "a"}), Ref: api.Ref{Ino: ino, Serial: uint64(ino)}, Kind: number(), Cookie: uint32(number())})
		}
		i.Nodes = append(i.Nodes, n)
	}
	return i
}

// TestOddImages: of images that no state has nothing is promised but an end: no call panics, and each ends.
func TestOddImages(t *testing.T) {
	r := newRand(61)
	m := rich(t).m
	for range 2500 {
		i := odd(r)
		f := plain.Load(i, one(r, []int{0, 8, 256, math.MinInt, math.MaxInt}))
		for range 12 {
			o := some(r, m, 1+r.Intn(19))
			ino, ino2 := 1+r.Intn(4), 1+r.Intn(4)
			o.Ref, o.Ref2 = api.Ref{Ino: ino, Serial: uint64(ino)}, api.Ref{Ino: ino2, Serial: uint64(ino2)}
			o.Name, o.Name2 = one(r, []string{"a", "b", "c"}), one(r, []string{"a", "b", "c"})
			o.Names = []string{one(r, []string{"a", "b", ".."}), "..", "a"}
			f.Do(o)
			f.Footprint()
		}
		f.Image()
	}
}
