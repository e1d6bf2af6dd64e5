package plain_test

import (
	"math"
	"testing"

	"oubliette/api"
	"oubliette/plain"
)

// TestExamples: the chapter's section Examples.
func TestExamples(t *testing.T) {
	p := begin(t, 8)
	a := p.create(rootRef, "a")
	p.write(a, 300, "hi")
	if n := p.stat(a); n.Blocks != 1 || n.Size != 302 || p.f.Footprint() != 5 {
		t.Errorf("P16.1: Write at 300: %+v, footprint %d", n, p.f.Footprint())
	}
	p.fine(api.Op{Kind: api.OpUnlink, Ref: rootRef, Name: "a", Held: []api.Ref{a}})
	if n := p.stat(a); n.Links != 0 || n.Version != 2 {
		t.Errorf("P16.1: Unlink with Held: %+v", n)
	}
	p.fine(api.Op{Kind: api.OpRelease, Refs: []api.Ref{a}})
	p.fails(api.Op{Kind: api.OpStat, Ref: a}, api.Stale)
	if p.f.Footprint() != 2 {
		t.Errorf("P16.1: Release: footprint %d", p.f.Footprint())
	}
	d := p.mkdir(rootRef, "d")
	p.fails(api.Op{Kind: api.OpRename, Ref: rootRef, Name: "d", Ref2: d, Name2: "e"}, api.Inval)
	a = p.create(rootRef, "a")
	r := p.reads(api.Op{Kind: api.OpWalk, Ref: rootRef, Names: []string{"a", "b"}})
	if len(r.Attrs) != 1 || r.Attrs[0].Ref != a || r.Attr.Ref != rootRef {
		t.Errorf("P16.1: Walk a, b: %s", text(r))
	}
}

// TestNew: a new state: its one node, its Attr, what it takes.
func TestNew(t *testing.T) {
	attr := api.Attr{Ref: api.Ref{Ino: 1, Serial: 1}, Kind: api.Dir, Mode: 0o755, Links: 1}
	for _, slots := range []int{math.MinInt + 2, -1, 0, 1, 2, 3, 8, 256, plenty, math.MaxInt} {
		f := plain.New(slots)
		want := api.Image{Serial: 2, Nodes: []api.Node{{Attr: attr, Parent: 1}}}
		if s := differ(f.Image(), want); s != "" {
			t.Errorf("P16.1: New(%d): %s", slots, s)
		}
		if f.Footprint() != 2 {
			t.Errorf("P16.1: New(%d): footprint %d", slots, f.Footprint())
		}
		for _, kind := range []int{api.OpRoot, api.OpStat, api.OpWalk, api.OpOpen, api.OpChange} {
			if r := f.Do(api.Op{Kind: kind, Ref: rootRef}); !sameRes(r, api.Res{Attr: attr}) {
				t.Errorf("P16.1: New(%d): operation %d: %s", slots, kind, text(r))
			}
		}
		if r := f.Do(api.Op{Kind: api.OpStatfs}); !sameRes(r, api.Res{Slots: slots, Free: slots - 2, Spare: 63}) {
			t.Errorf("P16.1: New(%d): Statfs: %s", slots, text(r))
		}
		if r := f.Do(api.Op{Kind: api.OpList, Ref: rootRef, Count: 1000}); !sameRes(r, api.Res{}) {
			t.Errorf("P16.1: New(%d): List: %s", slots, text(r))
		}
	}
}

// TestFewSlots: states of few slots: what has just room, and what hasn't.
func TestFewSlots(t *testing.T) {
	for slots := -1; slots < 6; slots++ {
		for kind, room := range map[int]int{api.OpCreate: 2, api.OpMkdir: 2, api.OpSymlink: 3} {
			o := api.Op{Kind: kind, Ref: rootRef, Name: "a", Data: []byte("x")}
			code := api.OK
			if 2+room > slots {
				code = api.NoSpace
			}
			begin(t, slots).either(o, code)
		}
	}
}

// TestNoState: of no state.
func TestNoState(t *testing.T) {
	var none *plain.FS
	for kind := -1; kind <= 21; kind++ {
		for _, r := range []api.Ref{{}, rootRef} {
			o := api.Op{Kind: kind, Ref: r, Ref2: r, Name: "a", Name2: "b", Names: []string{"a"}, Data: []byte("x"), Refs: []api.Ref{r}}
			if got := none.Do(o); !sameRes(got, api.Res{Code: api.NotSupp}) {
				t.Errorf("P16.2: of no state: operation %d: %s", kind, text(got))
			}
		}
	}
	if none.Footprint() != 0 {
		t.Errorf("P16.2: of no state: Footprint %d", none.Footprint())
	}
	if s := differ(none.Image(), api.Image{}); s != "" {
		t.Errorf("P16.2: of no state: Image: %s", s)
	}
	// What Image answers of no state is an image that it answers: the state of it answers as that one did.
	back := plain.Load(none.Image(), 16)
	if s := differ(back.Image(), api.Image{}); s != "" || back.Footprint() != 0 || back.Do(api.Op{Kind: api.OpSync}).Code != api.NotSupp {
		t.Errorf("P16.1: Load of no state's image: %v", back)
	}
}

// TestOtherKinds: what is no operation.
func TestOtherKinds(t *testing.T) {
	p := begin(t, 16)
	for _, kind := range []int{math.MinInt, -20, -1, 0, 20, 21, 255, 256, 257, 1 << 32, 1<<32 + 1, math.MaxInt} {
		for _, r := range []api.Ref{{}, rootRef} {
			p.fails(api.Op{Kind: kind, Ref: r, Ref2: r, Name: "a", Name2: "b"}, api.NotSupp)
		}
	}
}
