package ops_test

import (
	"testing"

	"oubliette/api"
)

// brim: a volume with a directory whose five names of the greatest length fill a leaf, a directory without names, and a file beside; so many slots are free.
func brim(t testing.TB, free int) (p *pair, d, e api.Ref) {
	t.Helper()
	p = begin(t, 64)
	d, e = p.mkdir(rootRef, "d"), p.mkdir(rootRef, "e")
	n := p.create(d, long(31)+"0")
	for _, c := range "1234" {
		p.link(d, long(31)+string(c), n)
	}
	p.create(rootRef, "n")
	p.stuff(p.create(rootRef, "stuffing"), free)
	return p, d, e
}

// TestRoom: each operation with just as many slots as it wants, where it takes all of them and where it takes fewer, and with one fewer.
func TestRoom(t *testing.T) {
	var full [4]*pair
	var d, e api.Ref
	for free := range full {
		full[free], d, e = brim(t, free)
	}
	n, stuffing := api.Ref{Ino: 5, Serial: 5}, api.Ref{Ino: 6, Serial: 6}
	for _, c := range []struct {
		what  string
		o     api.Op
		room  int
		takes int
	}{
		{"a file, and a leaf", api.Op{Kind: api.OpCreate, Ref: d, Name: long(32)}, 2, 2},
		{"a file alone", api.Op{Kind: api.OpCreate, Ref: rootRef, Name: "x"}, 2, 1},
		{"a directory, and a leaf", api.Op{Kind: api.OpMkdir, Ref: d, Name: long(32)}, 2, 2},
		{"a directory alone", api.Op{Kind: api.OpMkdir, Ref: rootRef, Name: "x"}, 2, 1},
		{"a link, and a leaf", api.Op{Kind: api.OpSymlink, Ref: e, Name: "x", Data: []byte("to")}, 3, 3},
		{"a link alone", api.Op{Kind: api.OpSymlink, Ref: rootRef, Name: "x", Data: []byte("to")}, 3, 2},
		{"a name, and a leaf", api.Op{Kind: api.OpLink, Ref: d, Name: long(32), Ref2: n}, 1, 1},
		{"a name alone", api.Op{Kind: api.OpLink, Ref: rootRef, Name: "x", Ref2: n}, 1, 0},
		{"a name in another directory, and a leaf", api.Op{Kind: api.OpRename, Ref: rootRef, Name: "n", Ref2: d, Name2: long(32)}, 1, 1},
		{"a name in another directory, and a first leaf", api.Op{Kind: api.OpRename, Ref: rootRef, Name: "n", Ref2: e, Name2: "x"}, 1, 1},
		{"a name in another directory, and a leaf fewer", api.Op{Kind: api.OpRename, Ref: d, Name: long(31) + "0", Ref2: rootRef, Name2: "x"}, 1, 0},
		{"a name in place of another", api.Op{Kind: api.OpRename, Ref: d, Name: long(31) + "0", Ref2: d, Name2: long(32)}, 1, 0},
		{"a name over another", api.Op{Kind: api.OpRename, Ref: rootRef, Name: "n", Ref2: d, Name2: long(31) + "0"}, 1, 0},
		{"a name over a node that goes", api.Op{Kind: api.OpRename, Ref: d, Name: long(31) + "0", Ref2: rootRef, Name2: "n"}, 1, -1},
		{"a name of the same node", api.Op{Kind: api.OpRename, Ref: d, Name: long(31) + "0", Ref2: d, Name2: long(31) + "1"}, 0, 0},
		{"the same name", api.Op{Kind: api.OpRename, Ref: d, Name: long(31) + "0", Ref2: d, Name2: long(31) + "0"}, 0, 0},
		{"a block", api.Op{Kind: api.OpWrite, Ref: n, Off: 255, Data: []byte("x")}, 1, 1},
		{"two blocks", api.Op{Kind: api.OpWrite, Ref: n, Off: 255, Data: []byte("xx")}, 2, 2},
		{"a block, and the list", api.Op{Kind: api.OpWrite, Ref: n, Off: 4096, Data: []byte("x")}, 2, 2},
		{"blocks, and the list", api.Op{Kind: api.OpWrite, Ref: n, Off: 4095, Data: []byte("xx")}, 3, 3},
		{"nothing", api.Op{Kind: api.OpWrite, Ref: n, Off: 4095}, 0, 0},
		{"bytes that are there", api.Op{Kind: api.OpWrite, Ref: stuffing, Off: 0, Data: make([]byte, 256)}, 0, 0},
		{"another size", api.Op{Kind: api.OpChange, Ref: n, Set: api.Change{Valid: api.SetSize, Size: 5000}}, 0, 0},
		{"a name less", api.Op{Kind: api.OpUnlink, Ref: d, Name: long(31) + "0"}, 0, 0},
		{"a node less", api.Op{Kind: api.OpUnlink, Ref: rootRef, Name: "n"}, 0, -1},
		{"an orphan more", api.Op{Kind: api.OpUnlink, Ref: rootRef, Name: "n", Held: []api.Ref{n}}, 0, 0},
	} {
		for free := range full {
			p := full[free].copied(t)
			code := api.OK
			if free < c.room {
				code = api.NoSpace
			}
			p.either(c.o, code)
			if code == api.OK && p.free() != free-c.takes {
				t.Fatalf("P17.1: %s: %d slots are free, not %d", c.what, p.free(), free-c.takes)
			}
		}
	}
}

// TestLeafMore: a longer name in the same directory takes a leaf more.
func TestLeafMore(t *testing.T) {
	for free := range 3 {
		p := begin(t, 64)
		d := p.mkdir(rootRef, "d")
		n := p.create(d, "a")
		for _, c := range "1234" {
			p.link(d, long(31)+string(c), n)
		}
		p.link(d, "bb", n)
		p.stuff(p.create(rootRef, "stuffing"), free)
		code := api.OK
		if free < 1 {
			code = api.NoSpace
		}
		p.either(api.Op{Kind: api.OpRename, Ref: d, Name: "a", Ref2: d, Name2: long(32)}, code)
		if blocks := p.stat(d).Blocks; code == api.OK && (blocks != 2 || p.free() != free-1) {
			t.Fatalf("P17.1: %d leaves, %d free", blocks, p.free())
		}
	}
}

// TestFewSlots: volumes of each small number of slots: what has room there.
func TestFewSlots(t *testing.T) {
	for slots := 2; slots < 12; slots++ {
		p := begin(t, slots)
		for k := range 12 {
			code := api.OK
			if p.free() < 2 {
				code = api.NoSpace
			}
			p.either(api.Op{Kind: api.OpCreate, Ref: rootRef, Name: numbered(k)}, code)
		}
		p.do(api.Op{Kind: api.OpUnlink, Ref: rootRef, Name: numbered(0)})
		p.do(api.Op{Kind: api.OpSymlink, Ref: rootRef, Name: "l", Data: []byte("to")})
		p.reads(api.Op{Kind: api.OpStatfs})
	}
}

// TestFull: a volume whose every slot is used is emptied again, and filled once more.
func TestFull(t *testing.T) {
	p := begin(t, 24)
	for range 3 {
		for k := 0; p.free() > 1; k++ {
			p.create(rootRef, numbered(k))
		}
		p.write(p.image().Nodes[1].Attr.Ref, 0, "x")
		if p.free() != 0 {
			t.Fatalf("P17.1: %d free", p.free())
		}
		p.fails(api.Op{Kind: api.OpMkdir, Ref: rootRef, Name: "x"}, api.NoSpace)
		p.fails(api.Op{Kind: api.OpLink, Ref: rootRef, Name: "x", Ref2: p.image().Nodes[1].Attr.Ref}, api.NoSpace)
		for _, e := range p.image().Nodes[0].Entries {
			p.unlink(rootRef, e.Name, 0)
		}
		if p.free() != 22 {
			t.Fatalf("P17.1: %d free", p.free())
		}
	}
}
