package plain_test

import (
	"slices"
	"testing"

	"oubliette/api"
)

// walked: the Refs of what a walk finds, Ref's own first; the code, if it is refused.
func (p *pair) walked(from api.Ref, uid uint32, names ...string) ([]api.Ref, api.Errno) {
	p.t.Helper()
	r := p.do(api.Op{Kind: api.OpWalk, Uid: uid, Gid: uid, Ref: from, Names: names})
	if r.Code != api.OK {
		if !sameRes(r, api.Res{Code: r.Code}) {
			p.t.Errorf("P16.1: Walk %q: %s", names, text(r))
		}
		return nil, r.Code
	}
	l := []api.Ref{r.Attr.Ref}
	for _, a := range r.Attrs {
		l = append(l, a.Ref)
	}
	return l, api.OK
}

// TestWalk: no name, names one below the other, up again, and what isn't there.
func TestWalk(t *testing.T) {
	p := begin(t, plenty)
	d := p.mkdir(rootRef, "d")
	e := p.mkdir(d, "e")
	f := p.create(e, "f")
	l := p.symlink(rootRef, "l", "d")
	gone := api.Ref{Ino: 9, Serial: 9}
	for _, c := range []struct {
		from  api.Ref
		names []string
		want  []api.Ref
		code  api.Errno
	}{
		{rootRef, nil, []api.Ref{rootRef}, api.OK},
		{e, nil, []api.Ref{e}, api.OK},
		{f, nil, []api.Ref{f}, api.OK},
		{l, nil, []api.Ref{l}, api.OK},
		{gone, nil, nil, api.Stale},
		{gone, []string{"x"}, nil, api.Stale},
		{rootRef, []string{"d"}, []api.Ref{rootRef, d}, api.OK},
		{rootRef, []string{"d", "e", "f"}, []api.Ref{rootRef, d, e, f}, api.OK},
		{e, []string{"f"}, []api.Ref{e, f}, api.OK},
		{rootRef, []string{".."}, []api.Ref{rootRef, rootRef}, api.OK},
		{rootRef, []string{"..", "..", "d"}, []api.Ref{rootRef, rootRef, rootRef, d}, api.OK},
		{d, []string{".."}, []api.Ref{d, rootRef}, api.OK},
		{e, []string{"..", "..", "..", "l"}, []api.Ref{e, d, rootRef, rootRef, l}, api.OK},
		{rootRef, []string{"d", "..", "d", "e", ".."}, []api.Ref{rootRef, d, rootRef, d, e, d}, api.OK},
		// What isn't there, as the first and as a later one.
		{rootRef, []string{"x"}, nil, api.NoEnt},
		{rootRef, []string{"x", "d"}, nil, api.NoEnt},
		{rootRef, []string{"d", "x"}, []api.Ref{rootRef, d}, api.OK},
		{rootRef, []string{"d", "x", "e"}, []api.Ref{rootRef, d}, api.OK},
		{rootRef, []string{"d", "e", "x"}, []api.Ref{rootRef, d, e}, api.OK},
		// Through what is no directory.
		{f, []string{"x"}, nil, api.NotDir},
		{f, []string{".."}, nil, api.NotDir},
		{l, []string{"e"}, nil, api.NotDir},
		{rootRef, []string{"l", "e"}, []api.Ref{rootRef, l}, api.OK},
		{e, []string{"f", "..", "f"}, []api.Ref{e, f}, api.OK},
		// Names that may not be are names that nothing has.
		{rootRef, []string{"."}, nil, api.NoEnt},
		{rootRef, []string{""}, nil, api.NoEnt},
		{rootRef, []string{"d/e"}, nil, api.NoEnt},
		{rootRef, []string{"d", ".", "e"}, []api.Ref{rootRef, d}, api.OK},
		{rootRef, []string{long(33)}, nil, api.NoEnt},
	} {
		l, code := p.walked(c.from, 0, c.names...)
		if code != c.code || !slices.Equal(l, c.want) {
			t.Errorf("P16.1: Walk from %v by %q: %v, %d; not %v, %d", c.from, c.names, l, code, c.want, c.code)
		}
	}
	// More names than a message has.
	var many []string
	for range 100 {
		many = append(many, "d", "..")
	}
	if l, _ := p.walked(rootRef, 0, many...); len(l) != 201 || l[200] != rootRef || l[199] != d {
		t.Errorf("P16.1: Walk by 200 names: %d", len(l))
	}
}

// TestSearch: a walk where search isn't allowed.
func TestSearch(t *testing.T) {
	p := begin(t, plenty)
	d := p.mkdir(rootRef, "d")
	e := p.mkdir(d, "e")
	p.mkdir(e, "f")
	for mode := range 0o1000 {
		p.set(e, mode, 5, 7)
		l, code := p.walked(e, 5, "f")
		if ok := mode&0o100 != 0; ok != (code == api.OK) || ok != (len(l) == 2) || !ok && code != api.Access {
			t.Errorf("P16.1: Walk, mode %o: %v, %d", mode, l, code)
		}
		// Access comes ahead of what isn't there, and of the parent.
		for _, name := range []string{"x", ".."} {
			_, code = p.walked(e, 6, name)
			want := map[string]api.Errno{"x": api.NoEnt, "..": api.OK}[name]
			if mode&1 == 0 {
				want = api.Access
			}
			if code != want {
				t.Errorf("P16.1: Walk by %q, mode %o: %d", name, mode, code)
			}
		}
		// Where a name leads to needs no search; where it goes on from there does.
		want := 3
		if mode&1 != 0 {
			want = 4
		}
		if l, _ := p.walked(rootRef, 6, "d", "e", "f"); len(l) != want {
			t.Errorf("P16.1: Walk through mode %o: %v", mode, l)
		}
		if l, _ := p.walked(rootRef, 0, "d", "e", "f"); len(l) != 4 {
			t.Errorf("P16.1: Walk of the user 0 through mode %o: %v", mode, l)
		}
	}
}

// TestList: every cookie, every room.
func TestList(t *testing.T) {
	p := begin(t, plenty)
	d := p.mkdir(rootRef, "d")
	if r := p.reads(api.Op{Kind: api.OpList, Ref: d, Count: 1000}); len(r.Entries) != 0 {
		t.Errorf("P16.1: List of no entries: %s", text(r))
	}
	names := []string{"c", "a", "bb", "d", "é"}
	for _, name := range names {
		p.create(d, name)
	}
	p.fine(api.Op{Kind: api.OpUnlink, Ref: d, Name: "d"})
	p.fine(api.Op{Kind: api.OpRename, Ref: d, Name: "c", Ref2: d, Name2: "cc"})
	// By their cookies: a 2, bb 3, é 5, cc 6.
	want := []string{"a", "bb", "é", "cc"}
	cookies := []uint32{2, 3, 5, 6}
	for off := range 9 {
		for room := range 120 {
			var told []string
			left := room
			for k, name := range want {
				if int(cookies[k]) <= off {
					continue
				}
				if left -= 24 + len(name); left < 0 {
					break
				}
				told = append(told, name)
			}
			r := p.ask(api.Op{Kind: api.OpList, Ref: d, Off: off, Count: room})
			var got []string
			for _, e := range r.Entries {
				got = append(got, e.Name)
			}
			if !slices.Equal(got, told) {
				t.Fatalf("P16.1: List behind %d with room %d: %q, not %q", off, room, got, told)
			}
		}
	}
	p.held("List")
	for _, off := range []int{7, 1<<32 - 1, 1 << 32, 1<<32 + 1, 1<<32 + 5, 1<<63 - 1} {
		if r := p.reads(api.Op{Kind: api.OpList, Ref: d, Off: off, Count: 1000}); len(r.Entries) != 0 {
			t.Errorf("P16.1: List behind %d: %s", off, text(r))
		}
	}
	for _, off := range []int{-1, -1 << 63, -1 << 32} {
		p.fails(api.Op{Kind: api.OpList, Ref: d, Off: off, Count: 1000}, api.Inval)
		p.fails(api.Op{Kind: api.OpList, Ref: d, Count: off}, api.Inval)
	}
	if r := p.reads(api.Op{Kind: api.OpList, Ref: d, Count: 1<<63 - 1}); len(r.Entries) != 4 {
		t.Errorf("P16.1: List with the greatest room: %s", text(r))
	}
	// Of an orphan there is nothing to be listed.
	e := p.mkdir(rootRef, "e")
	p.orphaned(rootRef, "e", 512, e)
	if r := p.reads(api.Op{Kind: api.OpList, Ref: e, Count: 1000}); len(r.Entries) != 0 {
		t.Errorf("P16.1: List of an orphan: %s", text(r))
	}
}
