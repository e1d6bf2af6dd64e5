package ops_test

import (
	"slices"
	"testing"

	"oubliette/api"
)

// putSlots: which slots are put.
func putSlots(puts []api.Put) []int {
	var l []int
	for _, p := range puts {
		l = append(l, p.Slot)
	}
	return l
}

// TestExample: the chapter's own.
func TestExample(t *testing.T) {
	v := volume{}
	ask := func(o api.Op) answer {
		t.Helper()
		a := do(v.get, 16, o)
		if !a.ok || a.slot != 0 {
			t.Fatalf("P17.1: %s: %v", opText(o), a)
		}
		v.apply(a.puts)
		return a
	}
	if a := ask(api.Op{Kind: api.OpRoot}); !a.same(answer{res: api.Res{Code: api.Stale}, ok: true}) {
		t.Fatalf("P17.2: OpRoot: %v", a)
	}
	if a := ask(api.Op{Kind: api.OpReclaim}); !slices.Equal(putSlots(a.puts), []int{0, 1}) || !sameRes(a.res, api.Res{}) {
		t.Fatalf("P17.2: OpReclaim: %v", a)
	}
	want := api.Attr{Ref: rootRef, Kind: api.Dir, Mode: 0o755, Links: 1}
	if a := ask(api.Op{Kind: api.OpRoot}); !a.same(answer{res: api.Res{Attr: want}, ok: true}) {
		t.Fatalf("P17.1: OpRoot: %v", a)
	}
	a := ask(api.Op{Kind: api.OpCreate, Ref: rootRef, Name: "a", Mode: 0o644})
	want = api.Attr{Ref: api.Ref{Ino: 2, Serial: 2}, Kind: api.File, Mode: 0o644, Links: 1}
	if !slices.Equal(putSlots(a.puts), []int{0, 1, 2, 3}) || !sameRes(a.res, api.Res{Attr: want}) {
		t.Fatalf("P17.1: OpCreate: %v", a)
	}
}

// TestPlainExample: the examples of layer 16, over a volume.
func TestPlainExample(t *testing.T) {
	p := begin(t, 16)
	a := p.create(rootRef, "a")
	p.write(a, 300, "hi")
	if p.stat(a).Blocks != 1 || p.free() != 11 {
		t.Fatalf("P17.1: %+v, %d free", p.stat(a), p.free())
	}
	if r := p.reads(api.Op{Kind: api.OpWalk, Ref: rootRef, Names: []string{"a", "b"}}); len(r.Attrs) != 1 {
		t.Fatalf("P17.1: a walk by a file: %s", text(r))
	}
	p.unlink(rootRef, "a", 0, a)
	if p.stat(a).Links != 0 {
		t.Fatalf("P17.1: %+v", p.stat(a))
	}
	p.fine(api.Op{Kind: api.OpRelease, Refs: []api.Ref{a}})
	p.fails(api.Op{Kind: api.OpStat, Ref: a}, api.Stale)
	if r := p.reads(api.Op{Kind: api.OpStatfs}); r.Slots != 16 || r.Free != 14 || r.Spare != 63 {
		t.Fatalf("P17.1: OpStatfs: %s", text(r))
	}
	d := p.mkdir(rootRef, "d")
	p.fails(api.Op{Kind: api.OpRename, Ref: rootRef, Name: "d", Ref2: d, Name2: "e"}, api.Inval)
}
