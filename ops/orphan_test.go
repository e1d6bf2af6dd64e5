package ops_test

import (
	"testing"

	"oubliette/api"
)

// TestOrphans: a node without a name that is held is there yet, and is used as one with names, till it isn't held any more.
func TestOrphans(t *testing.T) {
	p := begin(t, 40)
	n, d, l := p.create(rootRef, "n"), p.mkdir(rootRef, "d"), p.symlink(rootRef, "l", "to")
	p.write(n, 20*256, "some")
	others := []api.Ref{{Ino: n.Ino, Serial: n.Serial + 50}, {Ino: -1}, rootRef}
	p.unlink(rootRef, "n", 0, append(others, n)...)
	p.unlink(rootRef, "d", 512, append(others, d)...)
	p.unlink(rootRef, "l", 0, l, l)
	for _, r := range []api.Ref{n, d, l} {
		if a := p.stat(r); a.Links != 0 {
			t.Fatalf("P17.1: %+v", a)
		}
	}
	p.write(n, 0, "more")
	p.fine(api.Op{Kind: api.OpOpen, Ref: n, Flags: 514})
	p.write(n, 0, "again")
	p.fails(api.Op{Kind: api.OpLink, Ref: rootRef, Name: "n", Ref2: n}, api.NoEnt)
	for _, kind := range []int{api.OpCreate, api.OpMkdir, api.OpSymlink} {
		p.fails(api.Op{Kind: kind, Ref: d, Name: "x", Data: []byte("to")}, api.NoEnt)
	}
	other := p.create(rootRef, "other")
	p.fails(api.Op{Kind: api.OpLink, Ref: d, Name: "x", Ref2: other}, api.NoEnt)
	p.fails(api.Op{Kind: api.OpRename, Ref: rootRef, Name: "other", Ref2: d, Name2: "x"}, api.NoEnt)
	p.fails(api.Op{Kind: api.OpRename, Ref: d, Name: "other", Ref2: rootRef, Name2: "x"}, api.NoEnt)
	p.reads(api.Op{Kind: api.OpReadlink, Ref: l})
	p.reads(api.Op{Kind: api.OpList, Ref: d, Count: 100})
	p.reads(api.Op{Kind: api.OpWalk, Ref: d})
	p.fails(api.Op{Kind: api.OpWalk, Ref: d, Names: []string{".."}}, api.NoEnt)
}

// TestRelease: what is released, is an orphan and isn't held yet is there no more.
func TestRelease(t *testing.T) {
	p := begin(t, 40)
	n, d, l := p.create(rootRef, "n"), p.mkdir(rootRef, "d"), p.symlink(rootRef, "l", "to")
	for _, o := range []api.Op{{Kind: api.OpRelease}, {Kind: api.OpRelease, Refs: []api.Ref{n, d, l, rootRef, n}}, {Kind: api.OpRelease, Refs: badRefs}} {
		p.reads(o)
	}
	p.write(n, 20*256, "some")
	p.unlink(rootRef, "n", 0, n)
	p.unlink(rootRef, "d", 512, d)
	p.unlink(rootRef, "l", 0, l)
	p.reads(api.Op{Kind: api.OpRelease, Refs: []api.Ref{n, d, l}, Held: []api.Ref{l, d, n}})
	p.reads(api.Op{Kind: api.OpRelease, Refs: []api.Ref{{Ino: n.Ino, Serial: 1}, {Ino: d.Ino}, rootRef, {Ino: 64, Serial: 1}, {Ino: 65, Serial: 1}}})
	p.fine(api.Op{Kind: api.OpRelease, Refs: []api.Ref{n, l, {Ino: d.Ino, Serial: 1}, n, n}, Held: []api.Ref{l, {Ino: n.Ino}}})
	p.fails(api.Op{Kind: api.OpStat, Ref: n}, api.Stale)
	p.stat(d)
	p.stat(l)
	if r := p.reads(api.Op{Kind: api.OpStatfs}); r.Spare != 61 || r.Free != 40-1-1-1-2 {
		t.Fatalf("P17.1: OpStatfs: %s", text(r))
	}
	again := p.create(rootRef, "again")
	if again.Ino != n.Ino {
		t.Fatalf("P17.1: a file is made as %v", again)
	}
	p.reads(api.Op{Kind: api.OpRelease, Refs: []api.Ref{n, again}})
	p.fine(api.Op{Kind: api.OpRelease, Refs: []api.Ref{d, l}})
	if p.free() != 40-4 {
		t.Fatalf("P17.1: %d free", p.free())
	}
}

// TestReclaim: all orphans go, held or not, and nothing else.
func TestReclaim(t *testing.T) {
	x := newRich(t, 160)
	free := x.free()
	r := x.fine(api.Op{Kind: api.OpReclaim, Uid: 9, Held: x.orphans[:]})
	if !sameRes(r, api.Res{}) || x.free() != free+4+2+1 {
		t.Fatalf("P17.1: OpReclaim: %s, %d free, not %d", text(r), x.free(), free+7)
	}
	for _, n := range x.orphans {
		x.fails(api.Op{Kind: api.OpStat, Ref: n}, api.Stale)
	}
	x.reads(api.Op{Kind: api.OpReclaim})
}

// TestLost: what loses its last name and isn't held goes with all its slots, whatever Held names beside it.
func TestLost(t *testing.T) {
	p := begin(t, 60)
	free := p.free()
	for _, held := range [][]api.Ref{nil, {rootRef}, {{Ino: 2, Serial: 99}}, badRefs} {
		n := p.create(rootRef, "n")
		p.write(n, 0, string(make([]byte, 18*256)))
		p.link(rootRef, "m", n)
		p.unlink(rootRef, "n", 0, held...)
		p.unlink(rootRef, "m", 0, held...)
		p.fails(api.Op{Kind: api.OpStat, Ref: n}, api.Stale)
		d := p.mkdir(rootRef, "d")
		p.create(d, "x")
		p.fails(api.Op{Kind: api.OpUnlink, Ref: rootRef, Name: "d", Flags: 512}, api.NotEmpty)
		p.unlink(d, "x", 0)
		p.unlink(rootRef, "d", 512, held...)
		l := p.symlink(rootRef, "l", "to")
		p.unlink(rootRef, "l", 0, held...)
		p.fails(api.Op{Kind: api.OpStat, Ref: l}, api.Stale)
		if p.free() != free {
			t.Fatalf("P17.1: %d free, not %d", p.free(), free)
		}
	}
}

// TestLastNumber: an orphan with the greatest number that a node may have is one as all others.
func TestLastNumber(t *testing.T) {
	for _, kind := range []int{api.OpRelease, api.OpReclaim} {
		p := begin(t, 100)
		d := p.mkdir(rootRef, "d")
		var n api.Ref
		for k := range api.MaxInodes - 2 {
			n = p.create([]api.Ref{rootRef, d}[k%2], numbered(k))
		}
		if n.Ino != api.MaxInodes {
			t.Fatalf("P17.1: the last node is %v", n)
		}
		p.unlink(d, numbered(61), 0, n)
		p.stat(n)
		p.fine(api.Op{Kind: kind, Refs: []api.Ref{n}})
		p.fails(api.Op{Kind: api.OpStat, Ref: n}, api.Stale)
	}
}
