package plain_test

import (
	"math"
	"testing"

	"oubliette/api"
)

// TestValids: each Valid of 0 to 15, of a file, a directory, a symbolic link.
func TestValids(t *testing.T) {
	for k, o := range makes {
		for valid := range 16 {
			p := begin(t, plenty)
			n := p.fine(made(o, rootRef, "n")).Attr.Ref
			if o.Kind == api.OpCreate {
				p.write(n, 0, long(700))
			}
			was := p.stat(n)
			change := api.Op{Kind: api.OpChange, Ref: n, Set: api.Change{Valid: valid, Mode: 0o421, Uid: 50, Gid: 70, Size: 300}}
			if valid >= 8 && k > 0 {
				p.fails(change, []api.Errno{api.OK, api.IsDir, api.Inval}[k])
				continue
			}
			want := was
			if valid&1 != 0 {
				want.Mode = 0o421
			}
			if valid&2 != 0 {
				want.Uid = 50
			}
			if valid&4 != 0 {
				want.Gid = 70
			}
			if valid&8 != 0 {
				want.Size, want.Blocks = 300, 2
			}
			if valid != 0 {
				want.Version++
			}
			if r := p.fine(change); !sameRes(r, api.Res{Attr: want}) {
				t.Errorf("P16.1: %s: %s; not %+v", opText(change), text(r), want)
			}
		}
	}
}

// TestChangeWrong: what a change may not be.
func TestChangeWrong(t *testing.T) {
	p := begin(t, plenty)
	n := p.create(rootRef, "n")
	for _, valid := range []int{math.MinInt, -16, -1, 16, 17, 31, 32, 1 << 32, math.MaxInt} {
		p.fails(api.Op{Kind: api.OpChange, Ref: n, Set: api.Change{Valid: valid}}, api.Inval)
	}
	for _, mode := range []int{math.MinInt, -1, 0o1000, 0o1777, 1 << 32, math.MaxInt} {
		for valid := range 16 {
			code := api.OK
			if valid&1 != 0 {
				code = api.Inval
			}
			p.either(api.Op{Kind: api.OpChange, Ref: n, Set: api.Change{Valid: valid, Mode: mode}}, code)
		}
	}
	for _, size := range []int{math.MinInt, -1, 32769, math.MaxInt} {
		for valid := range 16 {
			code := api.OK
			if valid&8 != 0 {
				code = api.Inval
				if size > 0 {
					code = api.FBig
				}
			}
			p.either(api.Op{Kind: api.OpChange, Ref: n, Set: api.Change{Valid: valid, Size: size}}, code)
		}
	}
	// Where there is no node, or the wrong one, a size below 0 is told ahead.
	d, l := p.mkdir(rootRef, "d"), p.symlink(rootRef, "l", "n")
	for _, r := range []api.Ref{d, l} {
		p.fails(api.Op{Kind: api.OpChange, Ref: r, Set: api.Change{Valid: 8, Size: -1}}, api.Inval)
	}
	p.fails(api.Op{Kind: api.OpChange, Ref: d, Set: api.Change{Valid: 8}}, api.IsDir)
	p.fails(api.Op{Kind: api.OpChange, Ref: d, Set: api.Change{Valid: 8, Size: 32769}}, api.IsDir)
	p.fails(api.Op{Kind: api.OpChange, Ref: l, Set: api.Change{Valid: 8, Size: 32769}}, api.Inval)
}

// TestWhoChanges: who may change what.
func TestWhoChanges(t *testing.T) {
	for _, c := range []struct {
		uid, gid uint32
		set      api.Change
		code     api.Errno
	}{
		// The node is 5's, in the group 7, mode 640.
		{5, 9, api.Change{Valid: 1, Mode: 0o600}, api.OK},
		{6, 7, api.Change{Valid: 1, Mode: 0o600}, api.Perm},
		{0, 0, api.Change{Valid: 1, Mode: 0o600}, api.OK},
		{5, 9, api.Change{Valid: 2, Uid: 5}, api.OK},
		{5, 9, api.Change{Valid: 2, Uid: 6}, api.Perm},
		{5, 9, api.Change{Valid: 2, Uid: 0}, api.Perm},
		{6, 7, api.Change{Valid: 2, Uid: 5}, api.Perm},
		{6, 7, api.Change{Valid: 2, Uid: 6}, api.Perm},
		{0, 0, api.Change{Valid: 2, Uid: 6}, api.OK},
		{5, 9, api.Change{Valid: 4, Gid: 7}, api.OK},
		{5, 9, api.Change{Valid: 4, Gid: 9}, api.OK},
		{5, 9, api.Change{Valid: 4, Gid: 8}, api.Perm},
		{5, 9, api.Change{Valid: 4, Gid: 0}, api.Perm},
		{6, 7, api.Change{Valid: 4, Gid: 7}, api.Perm},
		{0, 3, api.Change{Valid: 4, Gid: 8}, api.OK},
		{5, 9, api.Change{Valid: 6, Uid: 5, Gid: 9}, api.OK},
		{5, 9, api.Change{Valid: 6, Uid: 6, Gid: 9}, api.Perm},
		// A size asks for writing, and for nothing else.
		{5, 9, api.Change{Valid: 8, Size: 1}, api.OK},
		{6, 7, api.Change{Valid: 8, Size: 1}, api.Access},
		{6, 8, api.Change{Valid: 8, Size: 1}, api.Access},
		{0, 0, api.Change{Valid: 8, Size: 1}, api.OK},
		{6, 7, api.Change{Valid: 8, Size: 1, Uid: 9, Gid: 9, Mode: -1}, api.Access},
		{6, 8, api.Change{Valid: 0, Size: -1, Uid: 9, Gid: 9, Mode: -1}, api.OK},
		// What is asked for is what is so ahead of the change.
		{5, 9, api.Change{Valid: 9, Mode: 0o400, Size: 1}, api.OK},
		{5, 9, api.Change{Valid: 1, Mode: 0}, api.OK},
	} {
		p := begin(t, plenty)
		n := p.create(rootRef, "n")
		p.set(n, 0o640, 5, 7)
		p.either(api.Op{Kind: api.OpChange, Uid: c.uid, Gid: c.gid, Ref: n, Set: c.set}, c.code)
	}
	// An owner who may not write can't, till the mode is another one.
	p := begin(t, plenty)
	n := p.create(rootRef, "n")
	p.set(n, 0o466, 5, 7)
	p.fails(api.Op{Kind: api.OpChange, Uid: 5, Ref: n, Set: api.Change{Valid: 9, Mode: 0o666}}, api.Access)
	p.fine(api.Op{Kind: api.OpChange, Uid: 6, Ref: n, Set: api.Change{Valid: 8, Size: 9}})
	p.fine(api.Op{Kind: api.OpChange, Uid: 5, Ref: n, Set: api.Change{Valid: 1, Mode: 0o666}})
	p.fine(api.Op{Kind: api.OpChange, Uid: 5, Ref: n, Set: api.Change{Valid: 8}})
}

// TestSizes: sizes of 0, in a block's midst, at its end, of MaxFile and one more; cut, and made longer again.
func TestSizes(t *testing.T) {
	content := long(3*256 + 5)
	for _, size := range []int{0, 1, 5, 255, 256, 257, 300, 511, 512, 513, 767, 768, 769, 773, 774, 1024, 4096, 4097, 32767, 32768} {
		p := begin(t, plenty)
		n := p.create(rootRef, "n")
		p.write(n, 0, content)
		a := p.fine(api.Op{Kind: api.OpChange, Ref: n, Set: api.Change{Valid: 8, Size: size}}).Attr
		if blocks := min((size+255)/256, 4); a.Size != size || a.Blocks != blocks || a.Version != 2 {
			t.Errorf("P16.1: size %d: %+v", size, a)
		}
		want := content[:min(size, len(content))]
		if got := p.read(n); got != want+zeros(size-len(want)) {
			t.Errorf("P16.1: size %d: %q", size, got)
		}
		// Longer again: what was cut off is bytes 0, also in the last block.
		for _, more := range []int{size + 1, size + 300, 32768} {
			if more <= 32768 {
				p.fine(api.Op{Kind: api.OpChange, Ref: n, Set: api.Change{Valid: 8, Size: more}})
				if got := p.read(n); got != want+zeros(more-len(want)) {
					t.Errorf("P16.1: size %d, then %d: %q", size, more, got)
				}
			}
		}
		p.fails(api.Op{Kind: api.OpChange, Ref: n, Set: api.Change{Valid: 8, Size: 32769}}, api.FBig)
	}
}

// zeros: so many bytes 0.
func zeros(n int) string { return string(make([]byte, max(n, 0))) }

// TestCutList: a cut at and about the first block from Direct on, and about holes.
func TestCutList(t *testing.T) {
	for size := 4000; size < 4400; size++ {
		p := begin(t, plenty)
		n := p.create(rootRef, "n")
		p.write(n, 4090, long(20))
		// The root and its leaf, the node, blocks 15 and 16, one for what is behind Direct, and one.
		if got := p.f.Footprint(); got != 7 {
			t.Fatalf("P16.1: footprint %d", got)
		}
		p.fine(api.Op{Kind: api.OpChange, Ref: n, Set: api.Change{Valid: 8, Size: size}})
		want := 7
		if size <= 4096 {
			want = 5
		}
		if got := p.f.Footprint(); got != want {
			t.Errorf("P16.1: footprint %d of size %d, not %d", got, size, want)
		}
	}
}

// TestOpen: flags, kinds and modes.
func TestOpen(t *testing.T) {
	p := begin(t, plenty)
	f, d, l := p.create(rootRef, "f"), p.mkdir(rootRef, "d"), p.symlink(rootRef, "l", "f")
	for flags, want := range map[int]int{0: 4, 1: 2, 2: 6, 512: 6, 513: 2, 514: 6} {
		p.fails(api.Op{Kind: api.OpOpen, Ref: l, Flags: flags}, api.Loop)
		code := api.OK
		if want&2 != 0 {
			code = api.IsDir
		}
		p.either(api.Op{Kind: api.OpOpen, Ref: d, Flags: flags}, code)
		for mode := range 8 {
			for place, who := range [][2]uint32{{6, 8}, {6, 7}, {5, 7}} {
				p.set(f, mode<<(3*place), 5, 7)
				p.write(f, 0, long(300))
				was := p.stat(f)
				o := api.Op{Kind: api.OpOpen, Ref: f, Flags: flags, Uid: who[0], Gid: who[1]}
				if mode&want != want {
					p.fails(o, api.Access)
					continue
				}
				a := was
				if flags >= 512 {
					a.Size, a.Blocks, a.Version = 0, 0, was.Version+1
				}
				if r := p.fine(o); !sameRes(r, api.Res{Attr: a}) {
					t.Errorf("P16.1: %s: %s; not %+v", opText(o), text(r), a)
				}
			}
		}
	}
	for _, flags := range []int{math.MinInt, -1, 3, 4, 8, 511, 515, 516, 1023, 1024, 1536, 1 << 32, math.MaxInt} {
		for _, r := range []api.Ref{f, d, l} {
			p.fails(api.Op{Kind: api.OpOpen, Ref: r, Flags: flags}, api.Inval)
		}
	}
	p.set(d, 0o333, 5, 7)
	p.fails(api.Op{Kind: api.OpOpen, Ref: d, Uid: 5}, api.Access)
	p.set(d, 0o444, 5, 7)
	p.reads(api.Op{Kind: api.OpOpen, Ref: d, Uid: 5})
	// A file that is cut to nothing again is changed again.
	p.fine(api.Op{Kind: api.OpOpen, Ref: f, Flags: 513})
	if a, b := p.stat(f), p.fine(api.Op{Kind: api.OpOpen, Ref: f, Flags: 513}).Attr; b.Version != a.Version+1 {
		t.Errorf("P16.1: %+v, then %+v", a, b)
	}
}
