package plain_test

import (
	"math"
	"testing"

	"oubliette/api"
)

// TestUnlink: of a file, a link, directories, with Flags 0 and 512, with Held naming it and not.
func TestUnlink(t *testing.T) {
	for _, c := range []struct {
		name  string
		flags int
		code  api.Errno
	}{
		{"f", 0, api.OK}, {"f", 512, api.NotDir}, {"f", 1, api.Inval}, {"f", 513, api.Inval}, {"f", -1, api.Inval},
		{"l", 0, api.OK}, {"l", 512, api.NotDir},
		{"d", 0, api.IsDir}, {"d", 512, api.OK}, {"d", 511, api.Inval}, {"d", 1024, api.Inval}, {"d", math.MinInt, api.Inval}, {"d", math.MaxInt, api.Inval}, {"d", 1 << 32, api.Inval},
		{"e", 0, api.IsDir}, {"e", 512, api.NotEmpty},
		{"x", 0, api.NoEnt}, {"x", 512, api.NoEnt}, {"x", 2, api.Inval},
		{"..", 512, api.Inval}, {".", 512, api.Inval},
	} {
		for k := range 3 {
			p := begin(t, plenty)
			p.write(p.create(rootRef, "f"), 0, long(300))
			p.symlink(rootRef, "l", "to")
			p.mkdir(rootRef, "d")
			p.create(p.mkdir(rootRef, "e"), "x")
			o := api.Op{Kind: api.OpUnlink, Ref: rootRef, Name: c.name, Flags: c.flags}
			if c.code != api.OK {
				p.fails(o, c.code)
				continue
			}
			n, was, root, takes := p.in(rootRef, c.name), p.stat(p.in(rootRef, c.name)), p.stat(rootRef), p.f.Footprint()
			switch k {
			case 1:
				o.Held = []api.Ref{{Ino: 1, Serial: 1}, n, n}
			case 2:
				o.Held = []api.Ref{{Ino: n.Ino, Serial: n.Serial + 1}, {Ino: n.Ino + 1, Serial: n.Serial}, rootRef}
			}
			if r := p.fine(o); !sameRes(r, api.Res{}) {
				t.Errorf("P16.1: %s: %s", opText(o), text(r))
			}
			if a := p.stat(rootRef); a.Version != root.Version+1 {
				t.Errorf("P16.1: the directory behind %s: %+v", opText(o), a)
			}
			p.fails(o, api.NoEnt)
			if k != 1 {
				p.fails(api.Op{Kind: api.OpStat, Ref: n}, api.Stale)
				if got := p.f.Footprint(); got != takes-1-was.Blocks {
					t.Errorf("P16.1: footprint behind %s: %d of %d", opText(o), got, takes)
				}
				continue
			}
			was.Links, was.Version = 0, was.Version+1
			if a := p.stat(n); a != was {
				t.Errorf("P16.1: an orphan: %+v, not %+v", a, was)
			}
			if got := p.f.Footprint(); got != takes {
				t.Errorf("P16.1: footprint behind %s: %d of %d", opText(o), got, takes)
			}
		}
	}
}

// TestManyNames: a node loses one name behind the other; at the last one it goes.
func TestManyNames(t *testing.T) {
	p := begin(t, plenty)
	a := p.create(rootRef, "n0")
	for k := 1; k < 8; k++ {
		p.link(rootRef, "n"+string(rune('0'+k)), a)
	}
	for k := range 8 {
		if n := p.stat(a); n.Links != 8-k || n.Version != uint32(7+k) {
			t.Errorf("P16.1: %d names fewer: %+v", k, n)
		}
		p.fine(api.Op{Kind: api.OpUnlink, Ref: rootRef, Name: "n" + string(rune('0'+k))})
	}
	p.fails(api.Op{Kind: api.OpStat, Ref: a}, api.Stale)
}

// orphans: a file, a directory and a symbolic link without names, which are held.
func orphans(p *pair) (f, d, l api.Ref) {
	f, d, l = p.create(rootRef, "f"), p.mkdir(rootRef, "d"), p.symlink(rootRef, "l", "to")
	p.write(f, 0, "ahead")
	p.orphaned(rootRef, "f", 0, f)
	p.orphaned(rootRef, "d", 512, d)
	p.orphaned(rootRef, "l", 0, l)
	return f, d, l
}

// TestOrphan: an orphan is written, read, opened, changed, walked from; nothing is made in it.
func TestOrphan(t *testing.T) {
	p := begin(t, plenty)
	f, d, l := orphans(p)
	a := p.create(rootRef, "a")
	p.write(f, 300, "behind")
	if got := p.read(f); got != "ahead"+zeros(295)+"behind" {
		t.Errorf("P16.1: an orphan's bytes: %q", got)
	}
	p.fine(api.Op{Kind: api.OpChange, Ref: f, Set: api.Change{Valid: 15, Mode: 0o600, Uid: 3, Gid: 4, Size: 2}})
	p.fine(api.Op{Kind: api.OpOpen, Ref: f, Flags: 2})
	if n := p.fine(api.Op{Kind: api.OpOpen, Ref: f, Flags: 513}).Attr; n.Size != 0 || n.Blocks != 0 || n.Links != 0 {
		t.Errorf("P16.1: an orphan that is cut to nothing: %+v", n)
	}
	if r := p.reads(api.Op{Kind: api.OpReadlink, Ref: l}); string(r.Data) != "to" {
		t.Errorf("P16.1: an orphan's text: %s", text(r))
	}
	for _, r := range []api.Ref{f, d, l} {
		p.reads(api.Op{Kind: api.OpWalk, Ref: r})
		p.reads(api.Op{Kind: api.OpStat, Ref: r})
	}
	for _, name := range []string{"..", "x", "."} {
		p.fails(api.Op{Kind: api.OpWalk, Ref: d, Names: []string{name}}, api.NoEnt)
	}
	p.fails(api.Op{Kind: api.OpWalk, Ref: f, Names: []string{".."}}, api.NotDir)
	p.reads(api.Op{Kind: api.OpOpen, Ref: d})
	p.reads(api.Op{Kind: api.OpList, Ref: d, Count: 100})
	for _, o := range makes {
		p.fails(made(o, d, "x"), api.NoEnt)
		p.fails(made(o, d, ""), api.NoEnt)
		p.fails(made(o, f, "x"), api.NotDir)
	}
	p.fails(api.Op{Kind: api.OpLink, Ref: d, Name: "x", Ref2: a}, api.NoEnt)
	p.fails(api.Op{Kind: api.OpLink, Ref: rootRef, Name: "x", Ref2: f}, api.NoEnt)
	p.fails(api.Op{Kind: api.OpLink, Ref: rootRef, Name: "x", Ref2: l}, api.NoEnt)
	p.fails(api.Op{Kind: api.OpLink, Ref: rootRef, Name: "x", Ref2: d}, api.Perm)
	p.fails(api.Op{Kind: api.OpLink, Ref: rootRef, Name: "a", Ref2: f}, api.Exist)
	p.fails(api.Op{Kind: api.OpUnlink, Ref: d, Name: "x"}, api.NoEnt)
	p.fails(rename(rootRef, "a", d, "x"), api.NoEnt)
	p.fails(rename(rootRef, "a", d, ""), api.NoEnt)
	p.fails(rename(rootRef, "a", f, "x"), api.NotDir)
	p.fails(rename(d, "x", rootRef, "y"), api.NoEnt)
	p.fails(rename(d, "", rootRef, "y"), api.Inval)
}

// TestOrphanParent: what once was an orphan's parent may go, and its number be another one's.
func TestOrphanParent(t *testing.T) {
	p := begin(t, plenty)
	d := p.mkdir(rootRef, "d")
	e := p.mkdir(d, "e")
	p.orphaned(d, "e", 512, e)
	p.fine(api.Op{Kind: api.OpUnlink, Ref: rootRef, Name: "d", Flags: 512})
	p.fails(api.Op{Kind: api.OpWalk, Ref: e, Names: []string{".."}}, api.NoEnt)
	f := p.create(rootRef, "f")
	if f.Ino != d.Ino {
		t.Fatalf("P16.1: made anew: %v", f)
	}
	p.fails(api.Op{Kind: api.OpWalk, Ref: e, Names: []string{".."}}, api.NoEnt)
	p.fails(api.Op{Kind: api.OpWalk, Ref: e, Names: []string{"..", ".."}}, api.NoEnt)
}

// there: which of these are there.
func (p *pair) there(refs ...api.Ref) string {
	s := ""
	for _, r := range refs {
		s += map[bool]string{true: "1", false: "0"}[p.do(api.Op{Kind: api.OpStat, Ref: r}).Code == api.OK]
	}
	return s
}

// TestRelease: with Held, without, of what is no orphan; Reclaim.
func TestRelease(t *testing.T) {
	base := begin(t, plenty)
	f, d, l := orphans(base)
	a := base.create(rootRef, "a")
	other := func(r api.Ref) api.Ref { return api.Ref{Ino: r.Ino, Serial: r.Serial + 1} }
	for _, c := range []struct {
		refs, held []api.Ref
		want       string
	}{
		{nil, nil, "11111"},
		{nil, []api.Ref{f}, "11111"},
		{[]api.Ref{f}, nil, "01111"},
		{[]api.Ref{f, f, f}, nil, "01111"},
		{[]api.Ref{l, d}, nil, "10011"},
		{[]api.Ref{f, d, l}, []api.Ref{d}, "01011"},
		{[]api.Ref{f, d, l}, []api.Ref{l, f, d, f}, "11111"},
		{[]api.Ref{f}, []api.Ref{other(f), d}, "01111"},
		{[]api.Ref{other(f), {}, {Ino: -1}, {Ino: math.MaxInt, Serial: 3}}, nil, "11111"},
		{[]api.Ref{a, rootRef}, nil, "11111"},
		{[]api.Ref{a, rootRef, f, d, l}, nil, "00011"},
	} {
		p := base.again(plenty)
		if r := p.fine(api.Op{Kind: api.OpRelease, Refs: c.refs, Held: c.held}); !sameRes(r, api.Res{}) {
			t.Errorf("P16.1: Release: %s", text(r))
		}
		if got := p.there(f, d, l, a, rootRef); got != c.want {
			t.Errorf("P16.1: Release of %v, Held %v: %s, not %s", c.refs, c.held, got, c.want)
		}
	}
	for _, held := range [][]api.Ref{nil, {f, d, l}} {
		p := base.again(plenty)
		if r := p.fine(api.Op{Kind: api.OpReclaim, Held: held, Refs: []api.Ref{a}}); !sameRes(r, api.Res{}) {
			t.Errorf("P16.1: Reclaim: %s", text(r))
		}
		if got := p.there(f, d, l, a, rootRef); got != "00011" || p.f.Footprint() != 4 {
			t.Errorf("P16.1: Reclaim, Held %v: %s, footprint %d", held, got, p.f.Footprint())
		}
		p.reads(api.Op{Kind: api.OpReclaim})
		p.reads(api.Op{Kind: api.OpSync})
	}
}

// TestVersions: a version is one more, and 0 behind the greatest.
func TestVersions(t *testing.T) {
	p := begin(t, plenty)
	n := p.create(rootRef, "n")
	p.m.at(n).version = math.MaxUint32 - 1
	i := p.f.Image()
	i.Nodes[1].Attr.Version = math.MaxUint32 - 1
	p = &pair{t, loadOf(i), p.m}
	for _, want := range []uint32{math.MaxUint32, 0, 1} {
		p.write(n, 0, "x")
		if a := p.stat(n); a.Version != want {
			t.Errorf("P16.1: version %d, not %d", a.Version, want)
		}
	}
}
