package plain_test

import (
	"testing"

	"oubliette/api"
)

// rename: an operation of the user 0.
func rename(from api.Ref, name string, to api.Ref, name2 string) api.Op {
	return api.Op{Kind: api.OpRename, Ref: from, Name: name, Ref2: to, Name2: name2}
}

// TestRenameWithin: within a directory.
func TestRenameWithin(t *testing.T) {
	p := begin(t, plenty)
	a, d := p.create(rootRef, "a"), p.mkdir(rootRef, "d")
	for k, n := range []api.Ref{a, d} {
		name := []string{"a", "d"}[k]
		was, root := p.stat(n), p.stat(rootRef)
		r := p.fine(rename(rootRef, name, rootRef, name+"2"))
		want := was
		want.Version++
		if !sameRes(r, api.Res{Attr: want}) {
			t.Errorf("P16.1: Rename within a directory: %s; not %+v", text(r), want)
		}
		// The directory is changed once, and its next cookie is the name's.
		if now := p.stat(rootRef); now.Version != root.Version+1 {
			t.Errorf("P16.1: the directory: %+v, not %+v", now, root)
		}
	}
	want := []api.Entry{{Name: "a2", Ref: a, Kind: api.File, Cookie: 3}, {Name: "d2", Ref: d, Kind: api.Dir, Cookie: 4}}
	if n := p.node(rootRef); len(n.Entries) != 2 || n.Entries[0] != want[0] || n.Entries[1] != want[1] {
		t.Errorf("P16.1: %+v", n.Entries)
	}
	if n := p.node(d); n.Parent != 1 {
		t.Errorf("P16.1: parent %d", n.Parent)
	}
}

// TestRenameSame: onto itself, and onto another name of the same node.
func TestRenameSame(t *testing.T) {
	p := begin(t, plenty)
	a, d := p.create(rootRef, "a"), p.mkdir(rootRef, "d")
	p.link(rootRef, "b", a)
	p.link(d, "c", a)
	p.create(d, "f")
	for _, o := range []api.Op{
		rename(rootRef, "a", rootRef, "a"),
		rename(rootRef, "a", rootRef, "b"),
		rename(rootRef, "b", d, "c"),
		rename(d, "c", rootRef, "a"),
		rename(rootRef, "d", rootRef, "d"), // a directory with entries
	} {
		n := p.stat(p.in(o.Ref, o.Name))
		if r := p.reads(o); !sameRes(r, api.Res{Attr: n}) {
			t.Errorf("P16.1: %s: %s", opText(o), text(r))
		}
	}
	// Also where another directory is full.
	full := p.filled(rootRef, "full", 31)
	p.link(full, "x", a)
	p.reads(rename(rootRef, "a", full, "x"))
}

// TestRenameInto: into another directory.
func TestRenameInto(t *testing.T) {
	p := begin(t, plenty)
	d, e := p.mkdir(rootRef, "d"), p.mkdir(rootRef, "e")
	f, g := p.create(d, "f"), p.mkdir(d, "g")
	h := p.create(g, "h")
	p.create(e, "x")
	p.fine(rename(d, "f", e, "f"))
	p.fine(rename(d, "g", e, "g"))
	if n := p.node(d); len(n.Entries) != 0 || n.Cookie != 2 || n.Attr.Version != 4 || n.Attr.Size != 0 {
		t.Errorf("P16.1: where they were: %+v", n)
	}
	if n := p.node(e); len(n.Entries) != 3 || n.Cookie != 3 || n.Attr.Version != 3 || n.Entries[0] != (api.Entry{Name: "f", Ref: f, Kind: api.File, Cookie: 2}) {
		t.Errorf("P16.1: where they are: %+v", n)
	}
	if n := p.node(g); n.Parent != e.Ino || n.Attr.Version != 2 {
		t.Errorf("P16.1: a directory that is moved: %+v", n)
	}
	if n := p.node(f); n.Parent != 0 || n.Attr.Version != 1 || n.Attr.Links != 1 {
		t.Errorf("P16.1: a file that is moved: %+v", n)
	}
	if l, code := p.walked(h, 0); code != api.OK || len(l) != 1 {
		t.Errorf("P16.1: below what is moved: %v, %d", l, code)
	}
	if l, _ := p.walked(rootRef, 0, "e", "g", "h"); len(l) != 4 || l[3] != h {
		t.Errorf("P16.1: Walk to what is moved: %v", l)
	}
	if l, _ := p.walked(g, 0, "..", ".."); len(l) != 3 || l[1] != e || l[2] != rootRef {
		t.Errorf("P16.1: Walk up from what is moved: %v", l)
	}
}

// TestRenameOnto: onto a file, a symbolic link, an empty directory, a directory with entries.
func TestRenameOnto(t *testing.T) {
	names := []string{"file", "link", "empty", "filled"}
	codes := map[[2]string]api.Errno{
		{"file", "empty"}: api.IsDir, {"file", "filled"}: api.IsDir,
		{"link", "empty"}: api.IsDir, {"link", "filled"}: api.IsDir,
		{"empty", "file"}: api.NotDir, {"empty", "link"}: api.NotDir, {"empty", "filled"}: api.NotEmpty,
		{"filled", "file"}: api.NotDir, {"filled", "link"}: api.NotDir, {"filled", "filled"}: api.NotEmpty,
	}
	build := func(p *pair, in api.Ref) {
		p.write(p.create(in, "file"), 0, long(300))
		p.symlink(in, "link", "to")
		p.mkdir(in, "empty")
		p.create(p.mkdir(in, "filled"), "x")
	}
	for _, from := range names {
		for _, onto := range names {
			for _, held := range []bool{false, true} {
				p := begin(t, plenty)
				d := p.mkdir(rootRef, "d")
				build(p, rootRef)
				build(p, d)
				n, other := p.in(rootRef, from), p.in(d, onto)
				was := p.stat(other)
				o := rename(rootRef, from, d, onto)
				if held {
					o.Held = []api.Ref{n, other}
				}
				if code := codes[[2]string{from, onto}]; code != api.OK {
					p.fails(o, code)
					continue
				}
				want := p.stat(n)
				want.Version++
				if r := p.fine(o); !sameRes(r, api.Res{Attr: want}) {
					t.Errorf("P16.1: %s: %s; not %+v", opText(o), text(r), want)
				}
				if p.in(d, onto) != n || p.m.named(p.m.at(rootRef), from) != nil {
					t.Errorf("P16.1: %s: %v", opText(o), p.node(d).Entries)
				}
				if !held {
					p.fails(api.Op{Kind: api.OpStat, Ref: other}, api.Stale)
					continue
				}
				was.Links, was.Version = 0, was.Version+1
				if a := p.stat(other); a != was {
					t.Errorf("P16.1: what lost its name: %+v, not %+v", a, was)
				}
			}
		}
	}
	// Of two names the other one stays.
	p := begin(t, plenty)
	p.create(rootRef, "a")
	b := p.create(rootRef, "b")
	p.link(rootRef, "c", b)
	p.fine(rename(rootRef, "a", rootRef, "b"))
	if a := p.stat(b); a.Links != 1 || a.Version != 2 || p.in(rootRef, "c") != b {
		t.Errorf("P16.1: what lost one of its names: %+v", a)
	}
}

// TestRenameBelow: a directory into itself, and below itself.
func TestRenameBelow(t *testing.T) {
	p := begin(t, plenty)
	d := p.mkdir(rootRef, "d")
	e := p.mkdir(d, "e")
	f := p.mkdir(e, "f")
	p.create(e, "x")
	g := p.mkdir(rootRef, "g")
	for _, to := range []api.Ref{d, e, f} {
		for _, name := range []string{"d", "e", "f", "x", "new"} {
			p.fails(rename(rootRef, "d", to, name), api.Inval)
		}
	}
	p.fails(rename(d, "e", e, "new"), api.Inval)
	p.fails(rename(d, "e", f, "new"), api.Inval)
	p.fails(rename(d, "e", e, "f"), api.Inval)
	// A way up isn't below, though something is there.
	p.fails(rename(e, "f", rootRef, "d"), api.NotEmpty)
	p.fails(rename(e, "f", d, "e"), api.NotEmpty)
	p.fails(rename(e, "x", rootRef, "d"), api.IsDir)
	// A name isn't a way: beside it is beside it.
	p.fine(rename(rootRef, "d", g, "d"))
	p.fails(rename(rootRef, "g", f, "g"), api.Inval)
	p.fine(rename(g, "d", rootRef, "d"))
	p.fine(rename(rootRef, "g", f, "g"))
	p.fine(rename(e, "f", rootRef, "f"))
	p.fine(rename(rootRef, "d", g, "below"))
	if l, _ := p.walked(d, 0, "..", "..", "..", ".."); len(l) != 5 || l[1] != g || l[2] != f || l[3] != rootRef {
		t.Errorf("P16.1: the way up: %v", l)
	}
}

// TestRenameAccess: in both directories, the first one first.
func TestRenameAccess(t *testing.T) {
	p := begin(t, plenty)
	d, e := p.mkdir(rootRef, "d"), p.mkdir(rootRef, "e")
	p.create(d, "a")
	p.create(e, "b")
	for from := range 8 {
		for to := range 8 {
			p.set(d, from, 5, 7)
			p.set(e, to, 5, 7)
			code := api.Access
			if from&3 == 3 && to&3 == 3 {
				code = api.OK
			}
			q := p.again(plenty)
			o := rename(d, "a", e, "b")
			o.Uid = 6
			q.either(o, code)
			o = rename(d, "none", e, "b")
			o.Uid = 6
			if code == api.OK {
				code = api.NoEnt
			}
			p.fails(o, code)
		}
	}
}
