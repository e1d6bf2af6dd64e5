package ops_test

import (
	"testing"

	"oubliette/api"
)

// moved: a name is another one.
func (p *pair) moved(in api.Ref, name string, to api.Ref, name2 string, held ...api.Ref) api.Res {
	p.t.Helper()
	return p.fine(api.Op{Kind: api.OpRename, Ref: in, Name: name, Ref2: to, Name2: name2, Held: held})
}

// TestRename: each kind of node in one directory, and from one to another.
func TestRename(t *testing.T) {
	p := begin(t, 60)
	d, e := p.mkdir(rootRef, "d"), p.mkdir(rootRef, "e")
	for _, n := range []api.Ref{p.create(d, "n"), p.mkdir(d, "m"), p.symlink(d, "l", "to")} {
		name := map[int]string{api.File: "n", api.Dir: "m", api.Symlink: "l"}[p.stat(n).Kind]
		was := p.stat(n)
		if r := p.moved(d, name, d, "new"); r.Attr.Ref != n || r.Attr.Version != was.Version+1 {
			t.Fatalf("P17.1: OpRename: %s", text(r))
		}
		p.fails(api.Op{Kind: api.OpRename, Ref: d, Name: name, Ref2: d, Name2: "new"}, api.NoEnt)
		p.moved(d, "new", e, name)
		p.moved(e, name, rootRef, name)
		p.moved(rootRef, name, e, name)
	}
	r := p.reads(api.Op{Kind: api.OpWalk, Ref: e, Names: []string{"m", ".."}})
	if len(r.Attrs) != 2 || r.Attrs[1].Ref != e {
		t.Fatalf("P17.1: the parent of what was moved: %s", text(r))
	}
}

// TestRenameBelow: a directory isn't moved into itself, nor below; but it is beside, and above.
func TestRenameBelow(t *testing.T) {
	p := begin(t, 200)
	way := []api.Ref{rootRef}
	for k := range 40 {
		way = append(way, p.mkdir(way[k], "d"))
	}
	for k := 1; k < len(way); k += 3 {
		for j := range way {
			code := api.OK
			if j >= k {
				code = api.Inval
			}
			if j != k-1 && code == api.OK && j%5 > 0 {
				continue
			}
			q := p.copied(t)
			q.either(api.Op{Kind: api.OpRename, Ref: way[k-1], Name: "d", Ref2: way[j], Name2: "x"}, code)
			if code == api.OK {
				// What lay below goes along.
				q.fails(api.Op{Kind: api.OpRename, Ref: way[j], Name: "x", Ref2: way[len(way)-1], Name2: "x"}, api.Inval)
			}
		}
	}
	p.moved(way[20], "d", rootRef, "half")
	p.moved(rootRef, "half", way[20], "d")
	p.reads(api.Op{Kind: api.OpRename, Ref: way[4], Name: "d", Ref2: way[4], Name2: "d"})
}

// TestRenameOver: what had the other name loses it: it goes, or has another name yet, or is held.
func TestRenameOver(t *testing.T) {
	p := begin(t, 100)
	d := p.mkdir(rootRef, "d")
	for _, in := range []api.Ref{rootRef, d} {
		for _, held := range []bool{false, true} {
			n, m := p.create(rootRef, "n"), p.create(in, "m")
			p.write(m, 20*256, "some")
			p.write(n, 0, "other")
			p.link(d, "k", m)
			p.moved(rootRef, "n", in, "m")
			if p.stat(m).Links != 1 || p.stat(n).Links != 1 {
				t.Fatalf("P17.1: %+v, %+v", p.stat(m), p.stat(n))
			}
			var hold []api.Ref
			if held {
				hold = []api.Ref{m}
			}
			p.moved(in, "m", d, "k", hold...)
			p.either(api.Op{Kind: api.OpStat, Ref: m}, map[bool]api.Errno{true: api.OK, false: api.Stale}[held])
			p.unlink(d, "k", 0)
			p.fine(api.Op{Kind: api.OpRelease, Refs: hold})

			x, y := p.mkdir(rootRef, "x"), p.mkdir(in, "y")
			p.create(y, "inside")
			p.fails(api.Op{Kind: api.OpRename, Ref: rootRef, Name: "x", Ref2: in, Name2: "y"}, api.NotEmpty)
			p.moved(in, "y", rootRef, "x", x)
			if p.stat(x).Links != 0 {
				t.Fatalf("P17.1: %+v", p.stat(x))
			}
			p.unlink(y, "inside", 0)
			p.unlink(rootRef, "x", 512)
			p.fine(api.Op{Kind: api.OpRelease, Refs: []api.Ref{x}})
		}
	}
	if p.free() != 100-4 {
		t.Fatalf("P17.1: %d free", p.free())
	}
}

// TestRenameKinds: over each kind of node by each.
func TestRenameKinds(t *testing.T) {
	p := begin(t, 60)
	d, e := p.mkdir(rootRef, "d"), p.mkdir(rootRef, "e")
	names := []string{"file", "dir", "link"}
	for _, in := range []api.Ref{d, e} {
		p.create(in, "file")
		p.mkdir(in, "dir")
		p.symlink(in, "link", "to")
	}
	for _, a := range names {
		for _, b := range names {
			for _, to := range []api.Ref{d, e} {
				code := api.OK
				switch {
				case a == "dir" && b != "dir":
					code = api.NotDir
				case a != "dir" && b == "dir":
					code = api.IsDir
				}
				p.copied(t).either(api.Op{Kind: api.OpRename, Ref: d, Name: a, Ref2: to, Name2: b}, code)
			}
		}
	}
	p.fails(api.Op{Kind: api.OpRename, Ref: d, Name: "dir", Ref2: rootRef, Name2: "d"}, api.NotEmpty)
	p.fails(api.Op{Kind: api.OpRename, Ref: rootRef, Name: "d", Ref2: d, Name2: "dir"}, api.Inval)
	p.fails(api.Op{Kind: api.OpRename, Ref: d, Name: "file", Ref2: rootRef, Name2: "d"}, api.IsDir)
}
