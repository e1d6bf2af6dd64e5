package plain_test

import (
	"math"
	"slices"
	"strings"
	"testing"

	"oubliette/api"
)

// makes: the operations that make a node, with what each asks for besides.
var makes = []api.Op{
	{Kind: api.OpCreate, Mode: 0o640},
	{Kind: api.OpMkdir, Mode: 0o750},
	{Kind: api.OpSymlink, Data: []byte("to")},
}

// made: one of these in a directory.
func made(o api.Op, in api.Ref, name string) api.Op {
	o.Ref, o.Name = in, name
	return o
}

// TestMade: what is made, node by node.
func TestMade(t *testing.T) {
	p := begin(t, 16)
	for k, o := range makes {
		o = made(o, rootRef, string(rune('c'-k)))
		o.Uid, o.Gid = 0, uint32(70+k)
		want := api.Attr{Ref: api.Ref{Ino: 2 + k, Serial: uint64(2 + k)}, Kind: 1 + k, Mode: o.Mode, Gid: uint32(70 + k), Links: 1}
		if o.Kind == api.OpSymlink {
			want.Mode, want.Size, want.Blocks = 0o777, 2, 1
		}
		if r := p.fine(o); !sameRes(r, api.Res{Attr: want}) {
			t.Errorf("P16.1: %s: %s; not %+v", opText(o), text(r), want)
		}
		n := p.node(want.Ref)
		if parent := []int{0, 1, 0}[k]; n.Attr != want || n.Parent != parent || n.Cookie != 0 || len(n.Entries) != 0 || len(n.Blocks) != want.Blocks {
			t.Errorf("P16.1: %s: %+v", opText(o), n)
		}
		if a := p.stat(rootRef); a.Version != uint32(k+1) || a.Links != 1 || a.Size != 256 || a.Blocks != 1 {
			t.Errorf("P16.1: the directory behind %s: %+v", opText(o), a)
		}
	}
	if b := p.node(api.Ref{Ino: 4, Serial: 4}).Blocks[0]; len(b) != 256 || string(b) != "to"+strings.Repeat("\x00", 254) {
		t.Errorf("P16.1: a symbolic link's block: %x", b)
	}
	want := []api.Entry{
		{Name: "a", Ref: api.Ref{Ino: 4, Serial: 4}, Kind: api.Symlink, Cookie: 3},
		{Name: "b", Ref: api.Ref{Ino: 3, Serial: 3}, Kind: api.Dir, Cookie: 2},
		{Name: "c", Ref: api.Ref{Ino: 2, Serial: 2}, Kind: api.File, Cookie: 1},
	}
	if n := p.node(rootRef); !slices.Equal(n.Entries, want) || n.Cookie != 3 || n.Parent != 1 {
		t.Errorf("P16.1: the root: %+v", n)
	}
	// The root, its leaf, a file, a directory, a symbolic link and its block, and one.
	if p.f.Footprint() != 7 || p.f.Image().Serial != 5 {
		t.Errorf("P16.1: footprint %d, serial %d", p.f.Footprint(), p.f.Image().Serial)
	}
}

// TestNames: names in each operation that asks for one.
func TestNames(t *testing.T) {
	codes := map[string]api.Errno{"": api.Inval, ".": api.Inval, "..": api.Inval, "/": api.Inval, "a/": api.Inval, "\x00": api.Inval, "\x1f": api.Inval, " ": api.OK, "\x7e": api.OK, "\x7f": api.Inval, "\x80": api.Inval, "...": api.OK, "\u0080": api.OK, "\xc3": api.Inval, "\xed\xa0\x80": api.Inval, "\ufffd": api.OK, "\U0010ffff": api.OK, "x": api.OK, long(31): api.OK, long(32): api.OK, long(33): api.NameLong, long(33) + "/": api.Inval, strings.Repeat("é", 16): api.OK, strings.Repeat("é", 17): api.NameLong, long(31) + "é": api.NameLong, long(70000): api.NameLong}
	for name, code := range codes {
		p := begin(t, 64)
		f, d := p.create(rootRef, "file"), p.mkdir(rootRef, "dir")
		for _, o := range makes {
			p.either(made(o, rootRef, name), code)
			if code == api.OK {
				p.fails(made(o, rootRef, name), api.Exist)
				p.fails(api.Op{Kind: api.OpUnlink, Ref: d, Name: name}, api.NoEnt)
				o := api.Op{Kind: api.OpUnlink, Ref: rootRef, Name: name}
				if p.m.named(p.m.things[1], name).kind == api.Dir {
					o.Flags = 512
				}
				p.fine(o)
			}
		}
		p.either(api.Op{Kind: api.OpLink, Ref: d, Name: name, Ref2: f}, code)
		p.either(api.Op{Kind: api.OpUnlink, Ref: d, Name: name}, code)
		p.either(api.Op{Kind: api.OpRename, Ref: rootRef, Name: "file", Ref2: d, Name2: name}, code)
		p.either(api.Op{Kind: api.OpRename, Ref: d, Name: name, Ref2: rootRef, Name2: "file"}, code)
	}
}

// TestModes: modes and flags of what is made.
func TestModes(t *testing.T) {
	p := begin(t, plenty)
	for _, mode := range []int{math.MinInt, -0o1000, -1, 0, 1, 0o644, 0o776, 0o777, 0o1000, 0o1644, 0o40755, 1 << 32, math.MaxInt} {
		code := api.OK
		if mode < 0 || mode > 0o777 {
			code = api.Inval
		}
		p.either(api.Op{Kind: api.OpCreate, Ref: rootRef, Name: numbered(mode & 15), Mode: mode}, code)
		p.either(api.Op{Kind: api.OpMkdir, Ref: rootRef, Name: "d" + numbered(mode&15), Mode: mode, Flags: 3}, code)
	}
	p = begin(t, plenty)
	p.fine(api.Op{Kind: api.OpSymlink, Ref: rootRef, Name: "l", Mode: -1, Flags: -1, Data: []byte("x")})
	for flags := -2; flags < 1100; flags++ {
		code := api.Inval
		if flags == 0 || flags == 1 || flags == 2 || flags == 512 || flags == 513 || flags == 514 {
			code = api.OK
		}
		if code == api.OK || flags < 10 || flags > 500 && flags < 530 || flags > 1020 && flags < 1030 {
			p.either(api.Op{Kind: api.OpCreate, Ref: rootRef, Name: "f" + numbered(flags), Flags: flags}, code)
		}
	}
	for _, flags := range []int{math.MinInt, math.MaxInt, 1 << 32, -512} {
		p.fails(api.Op{Kind: api.OpCreate, Ref: rootRef, Name: "new", Flags: flags}, api.Inval)
	}
}

// TestTexts: texts of symbolic links.
func TestTexts(t *testing.T) {
	for _, size := range []int{0, 1, 2, 128, 255, 256, 257, 512, 40000} {
		p := begin(t, 8)
		o := api.Op{Kind: api.OpSymlink, Ref: rootRef, Name: "l", Data: []byte(long(size))}
		if size < 1 || size > 256 {
			p.fails(o, api.Inval)
			continue
		}
		a := p.fine(o).Attr
		if a.Size != size || a.Blocks != 1 {
			t.Errorf("P16.1: a text of %d bytes: %+v", size, a)
		}
		if b := p.reads(api.Op{Kind: api.OpReadlink, Ref: a.Ref}).Data; string(b) != long(size) {
			t.Errorf("P16.1: Readlink: %d bytes, not %d", len(b), size)
		}
	}
	// Any bytes are a text, bytes 0 too.
	p := begin(t, 8)
	n := p.fine(api.Op{Kind: api.OpSymlink, Ref: rootRef, Name: "l", Data: []byte{0, 0xff, 0}}).Attr.Ref
	if b := p.reads(api.Op{Kind: api.OpReadlink, Ref: n}).Data; string(b) != "\x00\xff\x00" {
		t.Errorf("P16.1: Readlink: %x", b)
	}
}

// TestReadlink: of what is no symbolic link.
func TestReadlink(t *testing.T) {
	p := begin(t, 16)
	p.fails(api.Op{Kind: api.OpReadlink, Ref: rootRef}, api.Inval)
	p.fails(api.Op{Kind: api.OpReadlink, Ref: p.create(rootRef, "a")}, api.Inval)
	p.fails(api.Op{Kind: api.OpReadlink, Ref: api.Ref{Ino: 7, Serial: 1}}, api.Stale)
}

// TestFullDirectory: a directory of MaxEntries names, and one fewer.
func TestFullDirectory(t *testing.T) {
	for _, count := range []int{31, 32} {
		code := map[int]api.Errno{31: api.OK, 32: api.MLink}[count]
		for k := range 5 {
			p := begin(t, plenty)
			f := p.create(rootRef, "f")
			d := p.filled(rootRef, "d", count)
			switch k {
			case 3:
				p.either(api.Op{Kind: api.OpLink, Ref: d, Name: "new", Ref2: f}, code)
			case 4:
				p.either(api.Op{Kind: api.OpRename, Ref: rootRef, Name: "f", Ref2: d, Name2: "new"}, code)
			default:
				p.either(made(makes[k], d, "new"), code)
			}
		}
		// A name in place of another one is none more, neither is one within the directory.
		p := begin(t, plenty)
		p.create(rootRef, "f")
		d := p.filled(rootRef, "d", count)
		p.fine(api.Op{Kind: api.OpRename, Ref: rootRef, Name: "f", Ref2: d, Name2: "n05"})
		p.fine(api.Op{Kind: api.OpRename, Ref: d, Name: "n05", Ref2: d, Name2: "new"})
		if n := len(p.node(d).Entries); n != count {
			t.Errorf("P16.1: %d entries, not %d", n, count)
		}
		p.fine(api.Op{Kind: api.OpUnlink, Ref: d, Name: "new"})
		p.create(d, "newer")
	}
}

// TestAllNodes: a state of MaxInodes nodes, and one fewer.
func TestAllNodes(t *testing.T) {
	for _, count := range []int{63, 64} {
		code := map[int]api.Errno{63: api.OK, 64: api.NoFile}[count]
		p := begin(t, plenty)
		p.crowded("c", count)
		if r := p.reads(api.Op{Kind: api.OpStatfs}); r.Spare != 64-count {
			t.Errorf("P16.1: Statfs of %d nodes: %s", count, text(r))
		}
		for _, o := range makes {
			p.again(plenty).either(made(o, rootRef, "new"), code)
		}
		// Names are no nodes.
		c := p.in(rootRef, "c0")
		o := p.in(c, "n01")
		p.link(rootRef, "link", o)
		// An orphan is a node, too, till it goes.
		p.orphaned(rootRef, "link", 0, o)
		p.orphaned(c, "n01", 0, o)
		p.again(plenty).either(made(makes[0], rootRef, "new"), code)
		p.fine(api.Op{Kind: api.OpRelease, Refs: []api.Ref{o}})
		a := p.fine(made(makes[1], rootRef, "new")).Attr
		if a.Ref.Ino != o.Ino || a.Ref.Serial <= o.Serial {
			t.Errorf("P16.1: the least number that there isn't is %d, not %v", o.Ino, a.Ref)
		}
	}
}

// TestLeast: the least number that there isn't, wherever one is free, and another serial each time.
func TestLeast(t *testing.T) {
	p := begin(t, plenty)
	for _, name := range []string{"a", "b", "c", "d"} {
		p.create(rootRef, name)
	}
	for k, name := range []string{"c", "a", "d"} {
		p.fine(api.Op{Kind: api.OpUnlink, Ref: rootRef, Name: name})
		want := api.Ref{Ino: []int{4, 2, 5}[k], Serial: uint64(6 + k)}
		if r := p.create(rootRef, name+"2"); r != want {
			t.Errorf("P16.1: made anew: %v, not %v", r, want)
		}
	}
	p.fine(api.Op{Kind: api.OpUnlink, Ref: rootRef, Name: "d2"})
	p.fine(api.Op{Kind: api.OpUnlink, Ref: rootRef, Name: "b"})
	if r := p.create(rootRef, "e"); r != (api.Ref{Ino: 3, Serial: 9}) {
		t.Errorf("P16.1: made anew: %v", r)
	}
	if r := p.create(rootRef, "f"); r != (api.Ref{Ino: 5, Serial: 10}) {
		t.Errorf("P16.1: made anew: %v", r)
	}
}

// TestStaleEverywhere: a number that is given anew has another serial; the old Ref is Stale in every operation that asks for one.
func TestStaleEverywhere(t *testing.T) {
	for k, o := range makes {
		p := begin(t, plenty)
		old := p.fine(made(o, rootRef, "a")).Attr.Ref
		unlink := api.Op{Kind: api.OpUnlink, Ref: rootRef, Name: "a", Flags: []int{0, 512, 0}[k]}
		p.fine(unlink)
		p.create(rootRef, "f")
		anew := p.in(rootRef, "f")
		if anew.Ino != old.Ino || anew.Serial == old.Serial {
			t.Fatalf("P16.1: %v is given anew as %v", old, anew)
		}
		for _, r := range append(badRefs, old) {
			for _, kind := range refusing {
				p.fails(api.Op{Kind: kind, Ref: r, Name: "x", Data: []byte("x"), Ref2: rootRef, Name2: "y"}, api.Stale)
			}
			for _, kind := range []int{api.OpLink, api.OpRename} {
				p.fails(api.Op{Kind: kind, Ref: rootRef, Name: "f", Ref2: r, Name2: "y"}, api.Stale)
			}
			p.reads(api.Op{Kind: api.OpRelease, Refs: []api.Ref{r}})
			// A Ref of no node holds none.
			p := p.again(plenty)
			p.fine(api.Op{Kind: api.OpUnlink, Ref: rootRef, Name: "f", Held: []api.Ref{r}})
			p.fails(api.Op{Kind: api.OpStat, Ref: anew}, api.Stale)
		}
	}
}

// TestLinks: a node of MaxLinks names, and one fewer.
func TestLinks(t *testing.T) {
	p := begin(t, plenty)
	d := p.mkdir(rootRef, "d")
	for _, n := range []api.Ref{p.create(rootRef, "a"), p.symlink(rootRef, "l", "a")} {
		for k := 2; k <= 8; k++ {
			o := api.Op{Kind: api.OpLink, Ref: d, Name: numbered(n.Ino*10 + k), Ref2: n}
			was := p.stat(d)
			a := p.fine(o).Attr
			if a.Ref != n || a.Links != k || a.Version != uint32(k-1) || p.stat(d).Version != was.Version+1 {
				t.Errorf("P16.1: Link: %+v", a)
			}
		}
		p.fails(api.Op{Kind: api.OpLink, Ref: d, Name: "more", Ref2: n}, api.MLink)
		p.fine(api.Op{Kind: api.OpUnlink, Ref: d, Name: numbered(n.Ino*10 + 5)})
		if a := p.stat(n); a.Links != 7 || a.Version != 8 {
			t.Errorf("P16.1: a name fewer: %+v", a)
		}
		p.fine(api.Op{Kind: api.OpLink, Ref: rootRef, Name: numbered(n.Ino * 10), Ref2: n})
	}
	p.fails(api.Op{Kind: api.OpLink, Ref: d, Name: "more", Ref2: d}, api.Perm)
	p.fails(api.Op{Kind: api.OpLink, Ref: d, Name: "more", Ref2: rootRef}, api.Perm)
}

// TestRooms: Room n, with just so many slots, and one fewer.
func TestRooms(t *testing.T) {
	base := begin(t, plenty)
	f, d := base.create(rootRef, "f"), base.mkdir(rootRef, "d")
	base.create(rootRef, "g")
	base.link(d, "f2", f)
	asks := []struct {
		o    api.Op
		room int
	}{
		{api.Op{Kind: api.OpCreate, Ref: rootRef, Name: "a"}, 2},
		{api.Op{Kind: api.OpMkdir, Ref: rootRef, Name: "a"}, 2},
		{api.Op{Kind: api.OpSymlink, Ref: rootRef, Name: "a", Data: []byte("x")}, 3},
		{api.Op{Kind: api.OpLink, Ref: rootRef, Name: "a", Ref2: f}, 1},
		{api.Op{Kind: api.OpRename, Ref: rootRef, Name: "f", Ref2: d, Name2: "a"}, 1},
		{api.Op{Kind: api.OpRename, Ref: rootRef, Name: "f", Ref2: rootRef, Name2: "a"}, 1},
		{api.Op{Kind: api.OpRename, Ref: rootRef, Name: "f", Ref2: rootRef, Name2: "g"}, 1},
		{api.Op{Kind: api.OpWrite, Ref: f, Data: []byte("x")}, 1},
		{api.Op{Kind: api.OpWrite, Ref: f, Off: 255, Data: []byte("xx")}, 2},
		{api.Op{Kind: api.OpWrite, Ref: f, Off: 4095, Data: []byte("x")}, 1},
		{api.Op{Kind: api.OpWrite, Ref: f, Off: 4096, Data: []byte("x")}, 2},
		{api.Op{Kind: api.OpWrite, Ref: f, Off: 4095, Data: []byte("xx")}, 3},
		{api.Op{Kind: api.OpWrite, Ref: f, Data: make([]byte, 32768)}, 129},
		{api.Op{Kind: api.OpWrite, Ref: f, Off: 300}, 0},
	}
	for _, ask := range asks {
		least := base.f.Footprint() + ask.room
		base.again(least).fine(ask.o)
		base.again(least-1).fails(ask.o, api.NoSpace)
		base.again(math.MinInt).fails(ask.o, api.NoSpace)
		base.again(math.MaxInt).fine(ask.o)
	}
	// What asks for no room is done without.
	for _, o := range []api.Op{
		{Kind: api.OpUnlink, Ref: rootRef, Name: "g"},
		{Kind: api.OpRename, Ref: rootRef, Name: "f", Ref2: rootRef, Name2: "f"},
		{Kind: api.OpRename, Ref: rootRef, Name: "f", Ref2: d, Name2: "f2"},
		{Kind: api.OpChange, Ref: f, Set: api.Change{Valid: 15, Size: 32768}},
		{Kind: api.OpOpen, Ref: f, Flags: 514},
		{Kind: api.OpStat, Ref: f},
		{Kind: api.OpSync},
	} {
		base.again(0).fine(o)
	}
}

// TestStatfs: slots, those that are free, and nodes.
func TestStatfs(t *testing.T) {
	p := begin(t, 20)
	free := 18
	for k, takes := range []int{2, 1, 1} {
		p.create(rootRef, numbered(k))
		free -= takes
		if r := p.reads(api.Op{Kind: api.OpStatfs}); !sameRes(r, api.Res{Slots: 20, Free: free, Spare: 62 - k}) {
			t.Errorf("P16.1: Statfs behind %d files: %s", k+1, text(r))
		}
	}
	if r := p.again(3).reads(api.Op{Kind: api.OpStatfs}); !sameRes(r, api.Res{Slots: 3, Free: -3, Spare: 60}) {
		t.Errorf("P16.1: Statfs of too few slots: %s", text(r))
	}
}
