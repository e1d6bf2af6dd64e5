package plain_test

import (
	"math"
	"testing"

	"oubliette/api"
)

// TestWrite: at 0, over a block's end, far behind the end, no bytes, to MaxFile.
func TestWrite(t *testing.T) {
	for _, c := range []struct{ off, count, size, blocks, takes int }{
		{0, 0, 0, 0, 1},
		{0, 1, 1, 1, 2},
		{0, 256, 256, 1, 2},
		{0, 257, 257, 2, 3},
		{255, 1, 256, 1, 2},
		{255, 2, 257, 2, 3},
		{256, 1, 257, 1, 2},
		{300, 2, 302, 1, 2},
		{100, 600, 700, 3, 4},
		{20000, 3, 20003, 1, 3},
		{4095, 1, 4096, 1, 2},
		{4095, 2, 4097, 2, 4},
		{4096, 1, 4097, 1, 3},
		{32767, 1, 32768, 1, 3},
		{0, 32768, 32768, 128, 130},
		{1, 32767, 32768, 128, 130},
		{500, 0, 0, 0, 1},
		{32768, 0, 0, 0, 1},
	} {
		p := begin(t, plenty)
		n := p.create(rootRef, "n")
		before := p.f.Footprint()
		o := api.Op{Kind: api.OpWrite, Ref: n, Off: c.off, Data: []byte(long(c.count))}
		if r := p.fine(o); !sameRes(r, api.Res{Count: c.count}) {
			t.Errorf("P16.1: %s: %s", opText(o), text(r))
		}
		version := uint32(1)
		if c.count == 0 {
			version = 0
		}
		if a := p.stat(n); a.Size != c.size || a.Blocks != c.blocks || a.Version != version {
			t.Errorf("P16.1: %d bytes at %d: %+v", c.count, c.off, a)
		}
		if got := p.f.Footprint() - before; got != c.takes-1 {
			t.Errorf("P16.1: %d bytes at %d: %d more, not %d", c.count, c.off, got, c.takes-1)
		}
		if got := p.read(n); c.count > 0 && got != zeros(c.off)+long(c.count) {
			t.Errorf("P16.1: %d bytes at %d: %q", c.count, c.off, got)
		}
	}
}

// TestWriteWrong: what is too great, or begins ahead of 0.
func TestWriteWrong(t *testing.T) {
	p := begin(t, plenty)
	n, d, l := p.create(rootRef, "n"), p.mkdir(rootRef, "d"), p.symlink(rootRef, "l", "n")
	for _, c := range []struct {
		off, count int
		code       api.Errno
	}{
		{32768, 1, api.FBig}, {32767, 2, api.FBig}, {0, 32769, api.FBig}, {32769, 0, api.FBig}, {1 << 32, 0, api.FBig}, {math.MaxInt, 0, api.FBig}, {math.MaxInt, 1, api.FBig}, {math.MaxInt - 1, 2, api.FBig}, {math.MaxInt - 300, 40000, api.FBig},
		{-1, 0, api.Inval}, {-1, 1, api.Inval}, {-1, 40000, api.Inval}, {math.MinInt, 0, api.Inval}, {math.MinInt, 300, api.Inval}, {-256, 300, api.Inval},
	} {
		o := api.Op{Kind: api.OpWrite, Off: c.off, Data: []byte(long(c.count))}
		o.Ref = n
		p.fails(o, c.code)
		o.Ref = d
		p.fails(o, api.IsDir)
		o.Ref = l
		p.fails(o, api.Inval)
		o.Ref = api.Ref{Ino: n.Ino, Serial: 77}
		p.fails(o, api.Stale)
		// Too little room comes behind.
		q := p.again(0)
		o.Ref = n
		q.fails(o, c.code)
	}
}

// TestWriteOver: bytes over bytes, and beside them.
func TestWriteOver(t *testing.T) {
	p := begin(t, plenty)
	n := p.create(rootRef, "n")
	p.write(n, 200, "abcdefgh")
	p.write(n, 203, "XY")
	if got := p.read(n); got != zeros(200)+"abcXYfgh" {
		t.Errorf("P16.1: written over: %q", got)
	}
	p.write(n, 254, "pqrs")
	if got := p.read(n); got != zeros(200)+"abcXYfgh"+zeros(46)+"pqrs" {
		t.Errorf("P16.1: written behind: %q", got)
	}
	if a := p.stat(n); a.Size != 258 || a.Blocks != 2 || a.Version != 3 {
		t.Errorf("P16.1: %+v", a)
	}
	// Who reads and writes isn't asked: that was when it was opened.
	p.set(n, 0, 5, 7)
	p.fine(api.Op{Kind: api.OpWrite, Uid: 9, Gid: 9, Ref: n, Data: []byte("z")})
	if r := p.reads(api.Op{Kind: api.OpRead, Uid: 9, Gid: 9, Ref: n, Count: 1}); string(r.Data) != "z" {
		t.Errorf("P16.1: Read: %s", text(r))
	}
	// A block stays where only bytes 0 are written to it.
	p.write(n, 256, "\x00\x00")
	if a := p.stat(n); a.Blocks != 2 {
		t.Errorf("P16.1: a block of bytes 0: %+v", a)
	}
	p.write(n, 1000, "\x00")
	if a := p.stat(n); a.Blocks != 3 || a.Size != 1001 {
		t.Errorf("P16.1: a block of bytes 0: %+v", a)
	}
}

// TestRead: ahead of, over and behind the end, and of what there isn't.
func TestRead(t *testing.T) {
	p := begin(t, plenty)
	n := p.create(rootRef, "n")
	if got := p.read(n); got != "" {
		t.Errorf("P16.1: Read of no bytes: %q", got)
	}
	p.write(n, 600, long(200))
	p.write(n, 5000, "end")
	want := zeros(600) + long(200) + zeros(4200) + "end"
	offs := []int{0, 1, 255, 256, 257, 500, 599, 600, 601, 767, 768, 799, 800, 801, 1023, 1024, 4095, 4096, 4999, 5000, 5002, 5003, 5004, 5119, 5120, 32768, 32769, 1 << 32, math.MaxInt - 1, math.MaxInt}
	for _, off := range offs {
		for _, count := range append([]int{2, 3, 10, 200}, offs...) {
			piece := want[min(off, len(want)):]
			piece = piece[:min(count, len(piece))]
			r := p.ask(api.Op{Kind: api.OpRead, Ref: n, Off: off, Count: count})
			if !sameRes(r, api.Res{Data: []byte(piece)}) {
				t.Fatalf("P16.1: Read of %d at %d: %s", count, off, text(r))
			}
		}
	}
	p.held("Read")
	for _, below := range []int{-1, -256, -1 << 32, math.MinInt} {
		p.fails(api.Op{Kind: api.OpRead, Ref: n, Off: below, Count: 1}, api.Inval)
		p.fails(api.Op{Kind: api.OpRead, Ref: n, Count: below}, api.Inval)
		p.fails(api.Op{Kind: api.OpRead, Ref: n, Off: below, Count: below}, api.Inval)
		p.fails(api.Op{Kind: api.OpRead, Ref: rootRef, Off: below}, api.IsDir)
	}
	l := p.symlink(rootRef, "l", "n")
	p.fails(api.Op{Kind: api.OpRead, Ref: l, Count: 5}, api.Inval)
	p.fails(api.Op{Kind: api.OpRead, Ref: rootRef, Count: 5}, api.IsDir)
}
