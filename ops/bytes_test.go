package ops_test

import (
	"bytes"
	"math"
	"testing"

	"oubliette/api"
)

// size: a file is cut, or longer.
func (p *pair) size(n api.Ref, size int) {
	p.t.Helper()
	p.fine(api.Op{Kind: api.OpChange, Ref: n, Set: api.Change{Valid: api.SetSize, Size: size}})
}

// all: a file's bytes.
func (p *pair) all(n api.Ref) []byte {
	p.t.Helper()
	return p.reads(api.Op{Kind: api.OpRead, Uid: 9, Ref: n, Count: math.MaxInt}).Data
}

// edges: places at which a file's blocks begin, the first that its list tells among them, and those beside them.
var edges = []int{0, 1, 255, 256, 257, 511, 512, 15*256 - 1, 15 * 256, 15*256 + 255, 16 * 256, 16*256 + 1, 17 * 256, 127 * 256, 128*256 - 1, 128 * 256}

// TestBytes: bytes are written at each edge of a file without bytes, and of one with some; what lies beside them stays, holes are bytes 0; blocks are those that were come to.
func TestBytes(t *testing.T) {
	for _, before := range [][]int{nil, {0}, {15 * 256, 16 * 256}, {20*256 + 7}} {
		for _, off := range edges {
			for _, count := range []int{0, 1, 2, 255, 256, 257, 600} {
				if off+count > api.MaxFile {
					continue
				}
				p := begin(t, 20)
				n := p.create(rootRef, "n")
				for _, at := range before {
					p.write(n, at, "before")
				}
				want := p.all(n)
				if end := off + count; count > 0 && end > len(want) {
					want = append(want, make([]byte, end-len(want))...)
				}
				data := bytes.Repeat([]byte("w"), count)
				copy(want[min(off, len(want)):], data)
				if r := p.fine(api.Op{Kind: api.OpWrite, Ref: n, Off: off, Data: data}); r.Count != count {
					t.Fatalf("P17.1: OpWrite: %s", text(r))
				}
				if got := p.all(n); !bytes.Equal(got, want) {
					t.Fatalf("P17.1: behind %d bytes written at %d to a file with %v: %x, not %x", count, off, before, got, want)
				}
			}
		}
	}
}

// TestEmptyWrite: a write without bytes changes nothing and puts nothing, wherever it is.
func TestEmptyWrite(t *testing.T) {
	p := begin(t, 20)
	n := p.create(rootRef, "n")
	p.write(n, 3, "some")
	was := p.stat(n)
	for _, off := range edges {
		p.reads(api.Op{Kind: api.OpWrite, Ref: n, Off: off})
	}
	if p.stat(n) != was {
		t.Fatalf("P17.1: %+v, not %+v", p.stat(n), was)
	}
	p.fails(api.Op{Kind: api.OpWrite, Ref: n, Off: api.MaxFile + 1}, api.FBig)
}

// TestRead: bytes from each edge on, as many as may be asked for.
func TestRead(t *testing.T) {
	p := begin(t, 20)
	n := p.create(rootRef, "n")
	p.write(n, 250, "on both sides")
	p.write(n, 16*256-3, "on both sides")
	p.size(n, 18*256+4)
	for _, off := range append([]int{math.MaxInt, 1 << 32, 18*256 + 3, 18*256 + 4, 18*256 + 5}, edges...) {
		for _, count := range []int{0, 1, 3, 255, 256, 257, 5000, math.MaxInt} {
			p.reads(api.Op{Kind: api.OpRead, Uid: 9, Ref: n, Off: off, Count: count})
		}
	}
}

// TestSizes: a file of many blocks is cut at each edge, made longer again, and cut to nothing: what was cut off is bytes 0.
func TestSizes(t *testing.T) {
	full := begin(t, 160)
	n := full.create(rootRef, "n")
	full.write(n, 0, string(bytes.Repeat([]byte("abcdefgh"), api.MaxFile/8)))
	if a := full.stat(n); a.Blocks != 128 || a.Size != 32768 || full.free() != 160-1-2-1-128-1 {
		t.Fatalf("P17.1: %+v, %d free", a, full.free())
	}
	for k, size := range edges {
		for _, then := range []int{0, size, api.MaxFile} {
			p := full.copied(t)
			p.size(n, size)
			want := bytes.Repeat([]byte("abcdefgh"), api.MaxFile/8)[:size]
			if then > size {
				p.size(n, then)
				want = append(want, make([]byte, then-size)...)
			}
			if got := p.all(n); !bytes.Equal(got, want) {
				t.Fatalf("P17.1: cut to %d, then %d: %x, not %x", size, then, got, want)
			}
			if k%4 == 0 {
				p.write(n, 0, "again")
				p.fine(api.Op{Kind: api.OpOpen, Ref: n, Flags: 512})
				if a := p.stat(n); a.Size != 0 || a.Blocks != 0 || p.free() != 160-4 {
					t.Fatalf("P17.1: behind OpOpen: %+v, %d free", a, p.free())
				}
			}
		}
	}
}

// TestHoles: a file is made longer without a block; a hole in the midst has none, and what is cut of it neither.
func TestHoles(t *testing.T) {
	p := begin(t, 16)
	n := p.create(rootRef, "n")
	p.size(n, api.MaxFile)
	if a := p.stat(n); a.Size != 32768 || a.Blocks != 0 || p.free() != 12 {
		t.Fatalf("P17.1: %+v", a)
	}
	p.write(n, api.MaxFile-1, "x")
	p.write(n, 20*256, "y")
	p.write(n, 3, "z")
	if a := p.stat(n); a.Blocks != 3 || p.free() != 8 {
		t.Fatalf("P17.1: %+v", a)
	}
	p.size(n, 20*256+1)
	p.size(n, 20*256)
	if a := p.stat(n); a.Blocks != 1 || p.free() != 11 {
		t.Fatalf("P17.1: %+v, %d free", a, p.free())
	}
	p.size(n, 3)
	p.size(n, 5)
	if b := p.all(n); !bytes.Equal(b, make([]byte, 5)) {
		t.Fatalf("P17.1: %x", b)
	}
}

// TestOpen: each way to open each kind of node, by each kind of user.
func TestOpen(t *testing.T) {
	p := begin(t, 40)
	n, d, l := p.create(rootRef, "n"), p.mkdir(rootRef, "d"), p.symlink(rootRef, "l", "to")
	p.write(n, 5000, "some")
	for mode := 0; mode <= 0o777; mode += 0o52 {
		p.own(n, mode)
		p.own(d, mode)
		for _, uid := range []uint32{0, 5, 6} {
			for _, gid := range []uint32{0, 7} {
				for _, f := range []int{0, 1, 2, 3, 512, 513, 514, 515, -1} {
					for _, r := range []api.Ref{n, d, l} {
						p.do(api.Op{Kind: api.OpOpen, Uid: uid, Gid: gid, Ref: r, Flags: f})
					}
				}
			}
		}
		p.write(n, 300, "some")
	}
}

// TestChange: each of what a change may set, and each two, is so then, and nothing else.
func TestChange(t *testing.T) {
	p := begin(t, 40)
	n, d, l := p.create(rootRef, "n"), p.mkdir(rootRef, "d"), p.symlink(rootRef, "l", "to")
	for valid := range 16 {
		for _, r := range []api.Ref{n, d, l} {
			for _, uid := range []uint32{0, 5, 6} {
				c := api.Change{Valid: valid, Mode: 0o640, Uid: 5, Gid: 7, Size: 100 * valid}
				p.do(api.Op{Kind: api.OpChange, Uid: uid, Gid: 7, Ref: r, Set: c})
				c.Uid, c.Gid = uid, 8
				p.do(api.Op{Kind: api.OpChange, Uid: uid, Gid: 8, Ref: r, Set: c})
			}
		}
	}
	was := p.stat(n)
	p.reads(api.Op{Kind: api.OpChange, Uid: 9, Ref: n, Set: api.Change{Mode: -1, Size: -1}})
	if p.stat(n) != was {
		t.Fatalf("P17.1: OpChange of nothing: %+v, not %+v", p.stat(n), was)
	}
	p.own(n, 0o600)
	if a := p.stat(n); a.Version != was.Version+1 {
		t.Fatalf("P17.1: %+v", a)
	}
}

// TestSymlinks: texts of all lengths.
func TestSymlinks(t *testing.T) {
	p := begin(t, 20)
	for _, size := range []int{1, 2, 255, 256} {
		to := long(size)
		n := p.symlink(rootRef, "l", to)
		if r := p.reads(api.Op{Kind: api.OpReadlink, Uid: 9, Ref: n}); string(r.Data) != to {
			t.Fatalf("P17.1: OpReadlink: %s", text(r))
		}
		if a := p.stat(n); a.Size != size || a.Blocks != 1 || a.Mode != 0o777 || a.Version != 0 {
			t.Fatalf("P17.1: %+v", a)
		}
		p.unlink(rootRef, "l", 0)
	}
	for _, size := range []int{0, 257, 1000} {
		p.fails(api.Op{Kind: api.OpSymlink, Ref: rootRef, Name: "l", Data: make([]byte, size)}, api.Inval)
	}
}
