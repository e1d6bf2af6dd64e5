package ops_test

import (
	"fmt"
	"math"
	"slices"
	"strings"
	"testing"

	"oubliette/api"
)

// TestNames: names of all lengths that may be, of one byte, two, three and four a rune, in the order of their runes.
func TestNames(t *testing.T) {
	p := begin(t, 200)
	d := p.mkdir(rootRef, "d")
	list := []string{"a", "~", " ", "é", "\u0080", "日", "\U0010ffff", "...", "A", long(31), long(32), strings.Repeat("é", 16), strings.Repeat("日", 10) + "é", strings.Repeat("\U0001f600", 8)}
	for k, name := range list {
		n := p.create(d, name)
		if r := p.reads(api.Op{Kind: api.OpWalk, Ref: d, Names: []string{name}}); len(r.Attrs) != 1 || r.Attrs[0].Ref != n {
			t.Fatalf("P17.1: OpWalk %q: %s", name, text(r))
		}
		r := p.reads(api.Op{Kind: api.OpList, Ref: d, Count: math.MaxInt})
		if len(r.Entries) != k+1 || r.Entries[k].Name != name || r.Entries[k].Cookie != uint32(k+1) {
			t.Fatalf("P17.1: OpList: %s", text(r))
		}
		p.fails(api.Op{Kind: api.OpMkdir, Ref: d, Name: name}, api.Exist)
	}
	slices.Reverse(list)
	for _, name := range list {
		p.unlink(d, name, 0)
	}
	if a := p.stat(d); a.Blocks != 0 || a.Size != 0 {
		t.Fatalf("P17.1: %+v", a)
	}
}

// TestList: the entries behind each cookie, in room of each size.
func TestList(t *testing.T) {
	p := begin(t, 100)
	d := p.mkdir(rootRef, "d")
	for _, name := range []string{"b", "aa", long(32), "c", "é"} {
		p.create(d, name)
	}
	p.unlink(d, "aa", 0)
	p.fine(api.Op{Kind: api.OpRename, Ref: d, Name: "b", Ref2: d, Name2: "z"})
	for after := range 9 {
		for room := range 160 {
			p.reads(api.Op{Kind: api.OpList, Uid: 9, Ref: d, Off: after, Count: room})
		}
	}
	for _, after := range []int{math.MaxUint32, math.MaxUint32 + 1, 1<<32 + 2, math.MaxInt} {
		if r := p.reads(api.Op{Kind: api.OpList, Ref: d, Off: after, Count: math.MaxInt}); len(r.Entries) != 0 {
			t.Fatalf("P17.1: OpList behind %d: %s", after, text(r))
		}
	}
	if r := p.reads(api.Op{Kind: api.OpList, Ref: d, Count: math.MaxInt}); len(r.Entries) != 4 || r.Entries[3].Name != "z" || r.Entries[3].Cookie != 6 {
		t.Fatalf("P17.1: OpList: %s", text(r))
	}
}

// TestLeaves: a directory's leaves grow from none to as many as there may be, and shrink again; its names are as many as may be.
func TestLeaves(t *testing.T) {
	for _, size := range []int{3, 16, 31, 32} {
		p := begin(t, 100)
		d := p.mkdir(rootRef, "d")
		n := p.create(rootRef, "n")
		name := func(k int) string { return fmt.Sprintf("%0*d", size, k) }
		most := 0
		for k := range api.MaxEntries {
			if k%api.MaxLinks == 0 {
				n = p.create(d, name(k))
			} else {
				p.link(d, name(k), n)
			}
			most = max(most, p.stat(d).Blocks)
		}
		if want := 1 + (api.MaxEntries-1)/(255/(16+size)); most != want {
			t.Fatalf("P17.1: names of %d bytes: %d leaves, not %d", size, most, want)
		}
		p.fails(api.Op{Kind: api.OpCreate, Ref: d, Name: "more"}, api.MLink)
		p.fails(api.Op{Kind: api.OpLink, Ref: d, Name: "more", Ref2: n}, api.MLink)
		p.fine(api.Op{Kind: api.OpRename, Ref: d, Name: name(0), Ref2: d, Name2: "in place"})
		p.fails(api.Op{Kind: api.OpRename, Ref: rootRef, Name: "n", Ref2: d, Name2: "more"}, api.MLink)
		p.fine(api.Op{Kind: api.OpRename, Ref: rootRef, Name: "n", Ref2: d, Name2: name(7)})
		p.unlink(d, "in place", 0)
		for k := 1; k < api.MaxEntries; k++ {
			p.unlink(d, name(k), 0)
		}
		if a := p.stat(d); a.Blocks != 0 || a.Size != 0 || p.free() != 100-4 {
			t.Fatalf("P17.1: %+v, %d free", a, p.free())
		}
	}
}

// TestManyNodes: as many nodes as may be; numbers that are free again are given anew, serials never.
func TestManyNodes(t *testing.T) {
	p := begin(t, 100)
	x, y := p.mkdir(rootRef, "x"), p.mkdir(rootRef, "y")
	var made []api.Ref
	for k := range api.MaxInodes - 3 {
		made = append(made, p.create([]api.Ref{x, y}[k%2], numbered(k)))
	}
	for kind := api.OpCreate; kind <= api.OpSymlink; kind++ {
		p.fails(api.Op{Kind: kind, Ref: rootRef, Name: "more", Data: []byte("to")}, api.NoFile)
	}
	if r := p.reads(api.Op{Kind: api.OpStatfs}); r.Spare != 0 {
		t.Fatalf("P17.1: OpStatfs: %s", text(r))
	}
	for k := 0; k < len(made); k += 7 {
		p.unlink([]api.Ref{x, y}[k%2], numbered(k), 0)
		p.fails(api.Op{Kind: api.OpStat, Ref: made[k]}, api.Stale)
	}
	for k := 0; k < len(made); k += 7 {
		n := p.symlink(rootRef, numbered(k), "to")
		if n.Ino != made[k].Ino || n.Serial <= made[len(made)-1].Serial {
			t.Fatalf("P17.1: a node is made as %v, not as %d", n, made[k].Ino)
		}
	}
	p.fails(api.Op{Kind: api.OpMkdir, Ref: rootRef, Name: "more"}, api.NoFile)
}

// TestLinks: a file has names up to MaxLinks, in whatever directories; each is one, till the last one goes.
func TestLinks(t *testing.T) {
	for _, kind := range []int{api.OpCreate, api.OpSymlink} {
		p := begin(t, 64)
		d := p.mkdir(rootRef, "d")
		n := p.fine(api.Op{Kind: kind, Ref: rootRef, Name: numbered(0), Data: []byte("to")}).Attr.Ref
		for k := 1; k < api.MaxLinks; k++ {
			p.link([]api.Ref{rootRef, d}[k%2], numbered(k), n)
		}
		if a := p.stat(n); a.Links != 8 || a.Version != 7 {
			t.Fatalf("P17.1: %+v", a)
		}
		p.fails(api.Op{Kind: api.OpLink, Ref: d, Name: "more", Ref2: n}, api.MLink)
		p.fine(api.Op{Kind: api.OpRename, Ref: rootRef, Name: numbered(0), Ref2: d, Name2: numbered(0)})
		if r := p.reads(api.Op{Kind: api.OpRename, Ref: d, Name: numbered(1), Ref2: rootRef, Name2: numbered(2)}); r.Attr.Ref != n || r.Attr.Links != 8 {
			t.Fatalf("P17.1: OpRename to a name of the same node: %s", text(r))
		}
		p.unlink(d, numbered(0), 0)
		for k := 1; k < api.MaxLinks-1; k++ {
			p.unlink([]api.Ref{rootRef, d}[k%2], numbered(k), 0)
		}
		if a := p.stat(n); a.Links != 1 {
			t.Fatalf("P17.1: %+v", a)
		}
		p.unlink(d, numbered(7), 0)
		p.fails(api.Op{Kind: api.OpStat, Ref: n}, api.Stale)
	}
}
