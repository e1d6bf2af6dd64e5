package ops_test

import (
	"fmt"
	"math"
	"strings"
	"testing"

	"oubliette/api"
)

// What is in the way of an operation and is no part of it.
const (
	crowd = 1 << iota // there are as many nodes as may be
	tight             // one slot fewer is free than there has to be
)

// flaw is something wrong with an operation: what is told of it, and how it comes: by some parts of the operation (two flaws in one part don't come together), or by the volume.
type flaw struct {
	code  api.Errno
	parts string
	state int
	set   func(o *api.Op)
}

// without is an operation that is done, and what it is told instead for each flaw, in their order.
type without struct {
	what  string
	op    api.Op
	room  int
	flaws []flaw
}

// Each part of an operation has a letter, by which flaws tell what they are in.

// name, ref .. : an operation with another part.
func named(code api.Errno, name string) flaw {
	return flaw{code, "n", 0, func(o *api.Op) { o.Name = name }}
}

func otherNamed(code api.Errno, name string) flaw {
	return flaw{code, "N", 0, func(o *api.Op) { o.Name2 = name }}
}

func at(code api.Errno, r api.Ref) flaw {
	return flaw{code, "r", 0, func(o *api.Op) { o.Ref = r }}
}

func otherAt(code api.Errno, r api.Ref) flaw {
	return flaw{code, "R", 0, func(o *api.Op) { o.Ref2 = r }}
}

func flags(code api.Errno, f int) flaw {
	return flaw{code, "f", 0, func(o *api.Op) { o.Flags = f }}
}

func mode(code api.Errno, m int) flaw {
	return flaw{code, "m", 0, func(o *api.Op) { o.Mode = m }}
}

func user(code api.Errno, u uint32) flaw {
	return flaw{code, "u", 0, func(o *api.Op) { o.Uid, o.Gid = u, u }}
}

func off(code api.Errno, n int) flaw {
	return flaw{code, "o", 0, func(o *api.Op) { o.Off = n }}
}

func count(code api.Errno, n int) flaw {
	return flaw{code, "c", 0, func(o *api.Op) { o.Count = n }}
}

func data(code api.Errno, n int) flaw {
	return flaw{code, "d", 0, func(o *api.Op) { o.Data = make([]byte, n) }}
}

func volumes(code api.Errno, state int) flaw { return flaw{code, "", state, func(*api.Op) {}} }

// set: a flaw in what OpChange sets.
func set(code api.Errno, part string, f func(c *api.Change)) flaw {
	return flaw{code, part, 0, func(o *api.Op) { f(&o.Set) }}
}

// stale: flaws of names of no node.
func stale(at func(code api.Errno, r api.Ref) flaw) []flaw {
	return []flaw{at(api.Stale, api.Ref{}), at(api.Stale, api.Ref{Ino: 1, Serial: 2}), at(api.Stale, api.Ref{Ino: 65, Serial: 1}), at(api.Stale, api.Ref{Ino: -1, Serial: 1}), at(api.Stale, api.Ref{Ino: math.MaxInt, Serial: 1}), at(api.Stale, api.Ref{Ino: math.MinInt})}
}

// dirs: flaws of what has to be a directory.
func (x *rich) dirs(at func(code api.Errno, r api.Ref) flaw) []flaw {
	return append(stale(at), at(api.NotDir, x.file), at(api.NotDir, x.symbolic), at(api.NotDir, x.orphans[0]))
}

// names: flaws of a name.
func names(named func(code api.Errno, name string) flaw) []flaw {
	return []flaw{named(api.Inval, ""), named(api.Inval, "."), named(api.Inval, ".."), named(api.Inval, "a/b"), named(api.Inval, "\xff"), named(api.Inval, long(33)+"\x00"), named(api.NameLong, long(33)), named(api.NameLong, strings.Repeat("é", 17))}
}

// makes: the flaws that all have of whom a node is made: ahead of them those that only one kind has.
func (x *rich) makes(own ...flaw) []flaw {
	l := append(x.dirs(at), at(api.NoEnt, x.orphans[1]))
	l = append(append(l, names(named)...), own...)
	return append(l, user(api.Access, 9), named(api.Exist, "a"), at(api.MLink, x.full), volumes(api.NoFile, crowd), volumes(api.NoSpace, tight))
}

// makers: what makes nodes.
func (x *rich) makers() []without {
	o := api.Op{Uid: 5, Gid: 7, Ref: x.mine, Name: "new", Mode: 0o644, Data: []byte("to")}
	create, mkdir, symlink := o, o, o
	create.Kind, mkdir.Kind, symlink.Kind = api.OpCreate, api.OpMkdir, api.OpSymlink
	modes := []flaw{mode(api.Inval, 0o1000), mode(api.Inval, -1), mode(api.Inval, math.MinInt), mode(api.Inval, math.MaxInt)}
	opens := []flaw{flags(api.Inval, 3), flags(api.Inval, -1), flags(api.Inval, 1024)}
	mkdir.Flags, symlink.Flags, symlink.Mode = 3, 3, -1
	return []without{
		{"OpCreate", create, 2, x.makes(append(opens, modes...)...)},
		{"OpMkdir", mkdir, 2, x.makes(modes...)},
		{"OpSymlink", symlink, 3, x.makes(data(api.Inval, 0), data(api.Inval, 257), data(api.Inval, 40000))},
	}
}

// namers: what gives and takes names.
func (x *rich) namers() []without {
	links := append(x.dirs(at), at(api.NoEnt, x.orphans[1]))
	links = append(append(links, stale(otherAt)...), names(named)...)
	links = append(links, otherAt(api.Perm, x.other), otherAt(api.Perm, x.mine), otherAt(api.Perm, x.orphans[1]), user(api.Access, 9), named(api.Exist, "a"), at(api.MLink, x.full), otherAt(api.MLink, x.more), otherAt(api.NoEnt, x.orphans[0]), volumes(api.NoSpace, tight))
	unlinks := append(x.dirs(at), names(named)...)
	unlinks = append(unlinks, flags(api.Inval, 1), flags(api.Inval, -1), flags(api.Inval, 513), user(api.Access, 9), named(api.NoEnt, "none"), at(api.NoEnt, x.orphans[1]), flaw{api.IsDir, "nf", 0, func(o *api.Op) { o.Name = "h" }},
		flaw{api.NotEmpty, "nf", 0, func(o *api.Op) { o.Name, o.Flags = "h", 512 }}, flags(api.NotDir, 512))
	renames := append(x.dirs(at), x.dirs(otherAt)...)
	renames = append(renames, otherAt(api.NoEnt, x.orphans[1]))
	renames = append(append(renames, names(named)...), names(otherNamed)...)
	renames = append(renames, user(api.Access, 9), at(api.Access, rootRef), otherAt(api.Access, rootRef), named(api.NoEnt, "none"), at(api.NoEnt, x.orphans[1]),
		flaw{api.Inval, "nR", 0, func(o *api.Op) { o.Name, o.Ref2 = "h", x.inside }},
		flaw{api.NotDir, "nNR", 0, func(o *api.Op) { o.Name, o.Name2 = "h", "a" }},
		flaw{api.IsDir, "NR", 0, func(o *api.Op) { o.Name2 = "h" }}, flaw{api.IsDir, "NR", 0, func(o *api.Op) { o.Name2 = "e" }},
		flaw{api.NotEmpty, "nNR", 0, func(o *api.Op) { o.Name, o.Name2 = "h", "h" }},
		otherAt(api.MLink, x.full), volumes(api.NoSpace, tight))
	o := api.Op{Uid: 5, Gid: 7, Ref: x.mine, Name: "new", Ref2: x.file}
	link, unlink, rename := o, o, o
	link.Kind, unlink.Kind, rename.Kind = api.OpLink, api.OpUnlink, api.OpRename
	unlink.Name, rename.Name, rename.Ref2, rename.Name2 = "a", "a", x.other, "new"
	return []without{{"OpLink", link, 1, links}, {"OpUnlink", unlink, 0, unlinks}, {"OpRename", rename, 1, renames}}
}

// changers: what changes attributes and bytes.
func (x *rich) changers() []without {
	c := api.Change{Valid: 15, Mode: 0o640, Uid: 5, Gid: 7, Size: 10}
	change := append(stale(at),
		set(api.Inval, "v", func(c *api.Change) { c.Valid = 16 }), set(api.Inval, "v", func(c *api.Change) { c.Valid = -1 }), set(api.Inval, "v", func(c *api.Change) { c.Valid = math.MaxInt }),
		set(api.Inval, "m", func(c *api.Change) { c.Mode = 0o1000 }), set(api.Inval, "m", func(c *api.Change) { c.Mode = -1 }),
		set(api.Inval, "s", func(c *api.Change) { c.Size = -1 }), set(api.Inval, "s", func(c *api.Change) { c.Size = math.MinInt }),
		user(api.Perm, 9), set(api.Perm, "U", func(c *api.Change) { c.Uid = 6 }), set(api.Perm, "G", func(c *api.Change) { c.Gid = 8 }),
		at(api.IsDir, x.mine), at(api.Inval, x.symbolic), at(api.Access, x.locked),
		set(api.FBig, "s", func(c *api.Change) { c.Size = 32769 }), set(api.FBig, "s", func(c *api.Change) { c.Size = math.MaxInt }))
	open := append(stale(at), flags(api.Inval, 3), flags(api.Inval, -1), at(api.Loop, x.symbolic), at(api.IsDir, x.mine), at(api.Access, x.locked), user(api.Access, 9))
	write := append(stale(at), at(api.IsDir, x.mine), at(api.Inval, x.symbolic), off(api.Inval, -1), off(api.Inval, math.MinInt), off(api.FBig, 32766), off(api.FBig, math.MaxInt), data(api.FBig, 32769), volumes(api.NoSpace, tight))
	return []without{
		{"OpChange", api.Op{Kind: api.OpChange, Uid: 5, Gid: 7, Ref: x.file, Set: c}, 0, change},
		{"OpOpen", api.Op{Kind: api.OpOpen, Uid: 5, Gid: 7, Ref: x.file, Flags: 514}, 0, open},
		{"OpWrite", api.Op{Kind: api.OpWrite, Uid: 9, Ref: x.file, Off: 16*256 - 1, Data: []byte("abc")}, 3, write},
	}
}

// lookers: what changes nothing.
func (x *rich) lookers() []without {
	read := append(stale(at), at(api.IsDir, x.mine), at(api.Inval, x.symbolic), off(api.Inval, -1), off(api.Inval, math.MinInt), count(api.Inval, -1), count(api.Inval, math.MinInt))
	list := append(x.dirs(at), off(api.Inval, -1), off(api.Inval, math.MinInt), count(api.Inval, -1), count(api.Inval, math.MinInt))
	return []without{
		{"OpStat", api.Op{Kind: api.OpStat, Ref: x.file}, 0, stale(at)},
		{"OpRead", api.Op{Kind: api.OpRead, Ref: x.file, Off: 1, Count: 400}, 0, read},
		{"OpList", api.Op{Kind: api.OpList, Ref: x.full, Off: 1, Count: 400}, 0, list},
		{"OpReadlink", api.Op{Kind: api.OpReadlink, Ref: x.symbolic}, 0, append(stale(at), at(api.Inval, x.file), at(api.Inval, x.mine))},
		{"OpWalk", api.Op{Kind: api.OpWalk, Uid: 5, Gid: 7, Ref: x.mine, Names: []string{"h"}}, 0, append(stale(at), at(api.NotDir, x.file), at(api.NotDir, x.symbolic), user(api.Access, 9), at(api.NoEnt, x.full))},
	}
}

// apart: whether flaws are in unlike parts.
func apart(l []flaw) bool {
	parts := ""
	for _, f := range l {
		if strings.ContainsAny(parts, f.parts) {
			return false
		}
		parts += f.parts
	}
	return true
}

// with: an operation with flaws, and in which state.
func (w without) with(l []flaw) (api.Op, int) {
	o, state := w.op, 0
	for _, f := range l {
		f.set(&o)
		state |= f.state
	}
	return o, state
}

// some: all rows of one flaw, of two and of three, in their order, that can come together.
func (w without) some() [][]flaw {
	var rows [][]flaw
	add := func(l ...flaw) bool {
		if apart(l) {
			rows = append(rows, l)
			return true
		}
		return false
	}
	for i, a := range w.flaws {
		add(a)
		for j := i + 1; j < len(w.flaws); j++ {
			if !add(a, w.flaws[j]) {
				continue
			}
			for k := j + 1; k < len(w.flaws); k += 5 {
				add(a, w.flaws[j], w.flaws[k])
			}
		}
	}
	return rows
}

// states: the volume, and it crowded, and it tight for an operation, and both; what wants no room is asked of the first alone.
func (x *rich) states(t testing.TB, room int) [4]*rich {
	l := [4]*rich{0: x.again(t)}
	if room > 0 {
		l[crowd] = x.again(t).crowded().tight(room)
		l[0].tight(room)
		l[tight] = l[0].again(t).tight(room - 1)
		l[crowd|tight] = l[crowd].again(t).tight(room - 1)
	}
	return l
}

// TestErrors: of each operation each error of its list alone, each two, and many a three, that can come together: the one that stands first is told, nothing else, and nothing is put. Without them it is done, with just as many slots as it wants.
func TestErrors(t *testing.T) {
	x := newRich(t, 160)
	all := append(append(append(x.makers(), x.namers()...), x.changers()...), x.lookers()...)
	for _, w := range all {
		t.Run(w.what, func(t *testing.T) {
			t.Parallel()
			states := x.states(t, w.room)
			for _, row := range w.some() {
				o, state := w.with(row)
				p := states[state]
				if a := do(p.v.get, p.slots, o); !a.same(answer{res: api.Res{Code: row[0].code}, ok: true}) {
					t.Fatalf("P17.1: %d flaws, state %d, %s: %v; not %d", len(row), state, opText(o), a, row[0].code)
				}
				if r := p.f.Do(o); r.Code != row[0].code {
					t.Fatalf("P17.1: the state tells %d of %s, not %d", r.Code, opText(o), row[0].code)
				}
				if len(row) == 1 {
					p.fails(o, row[0].code)
				}
			}
			states[0].fine(w.op)
		})
	}
}

// TestNoOperation: kinds that are none.
func TestNoOperation(t *testing.T) {
	x := newRich(t, 160)
	for _, kind := range []int{0, 20, 21, -1, -19, 99, 256 + 1, 1 << 32, 1<<32 + 1, math.MinInt, math.MaxInt} {
		for _, r := range []api.Ref{rootRef, x.file, {}} {
			x.fails(api.Op{Kind: kind, Ref: r, Name: "a", Refs: []api.Ref{x.orphans[0]}}, api.NotSupp)
		}
		for _, v := range []volume{{}, {0: make([]byte, 256)}} {
			for _, slots := range []int{0, 1, 16} {
				if a := do(v.get, slots, api.Op{Kind: kind}); !a.same(answer{res: api.Res{Code: api.NotSupp}, ok: true}) {
					t.Fatalf("P17.1: kind %d without a file system: %v", kind, a)
				}
			}
		}
	}
}

// TestWalkErrors: an error at the first name is told; at a later one what was found ahead of it is.
func TestWalkErrors(t *testing.T) {
	x := newRich(t, 160)
	walk := func(r api.Ref, uid uint32, names ...string) api.Res {
		t.Helper()
		return x.reads(api.Op{Kind: api.OpWalk, Uid: uid, Gid: uid, Ref: r, Names: names})
	}
	for _, c := range []struct {
		ref   api.Ref
		uid   uint32
		names []string
		found int
	}{
		{rootRef, 0, nil, 0},
		{x.file, 9, nil, 0},
		{rootRef, 0, []string{"mine", "h", "e", "..", "..", "..", ".."}, 7},
		{rootRef, 0, []string{"mine", "a", "b"}, 2},
		{rootRef, 0, []string{"mine", "a", ".."}, 2},
		{rootRef, 0, []string{"mine", "none", "h"}, 1},
		{rootRef, 0, []string{"mine", "", "h"}, 1},
		{rootRef, 0, []string{"mine", ".", "h"}, 1},
		{rootRef, 9, []string{"mine", "h"}, 1},
		{rootRef, 9, []string{"mine", ".."}, 1},
		{rootRef, 0, []string{"..", "..", "mine"}, 3},
		{x.inside, 5, []string{"..", "l", "a"}, 2},
	} {
		if r := walk(c.ref, c.uid, c.names...); len(r.Attrs) != c.found || r.Attr.Ref != c.ref {
			t.Fatalf("P17.1: OpWalk %v: %s; not %d found", c.names, text(r), c.found)
		}
	}
	x.fails(api.Op{Kind: api.OpWalk, Ref: x.orphans[1], Names: []string{".."}}, api.NoEnt)
	x.fails(api.Op{Kind: api.OpWalk, Ref: x.orphans[1], Names: []string{"a"}}, api.NoEnt)
	x.fails(api.Op{Kind: api.OpWalk, Ref: rootRef, Names: []string{"."}}, api.NoEnt)
	x.fails(api.Op{Kind: api.OpWalk, Uid: 9, Ref: x.mine, Names: []string{".."}}, api.Access)
	x.fails(api.Op{Kind: api.OpWalk, Uid: 9, Ref: x.file, Names: []string{".."}}, api.NotDir)
}

// TestAlone: what is done where it isn't refused, by one who just may.
func TestAlone(t *testing.T) {
	x := newRich(t, 160)
	all := append(append(append(x.makers(), x.namers()...), x.changers()...), x.lookers()...)
	for _, w := range all {
		for _, uid := range []uint32{0, 5, 9} {
			t.Run(fmt.Sprint(w.what, uid), func(t *testing.T) {
				y := x.again(t)
				o := w.op
				o.Uid = uid
				y.do(o)
				y.do(o)
			})
		}
	}
}
