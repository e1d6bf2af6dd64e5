package desk_test

import (
	"testing"

	"oubliette/api"
	"oubliette/desk"
	"oubliette/grant"
	"oubliette/view"
)

// someSuper: a super with an inode, an orphan and slots of files.
func someSuper() api.Super {
	s := grant.New()
	s.Serial = 77
	for _, slot := range []int{1, 2, 9, 255} {
		s.Used[slot] = true
	}
	s.Inodes[1], s.Inodes[64] = 2, 255
	s.Orphans[64] = true
	return s
}

// newSupers: what slot 0 holds where there is no super.
func newSupers() map[string][]byte {
	return map[string][]byte{"no bytes": nil, "an empty list": {}, "bytes 0": make([]byte, 256)}
}

// noSupers: what slot 0 holds where it is no super's.
func noSupers(t *testing.T) map[string][]byte {
	b := packedSuper(t, someSuper())
	turned := append([]byte(nil), b...)
	turned[255] = 1
	return map[string][]byte{"short": b[:255], "long": append(b[:256:256], 0), "turned": turned, "a text": []byte("OUB1"), "ones": block(1)}
}

func TestSuperIsRead(t *testing.T) {
	for _, s := range []api.Super{grant.New(), someSuper()} {
		v := volume{0: packedSuper(t, s)}
		out, changes := v.do(t, 256, func(d *desk.Desk) []any {
			first := d.Super()
			d.Save()
			return []any{first, d.Super()}
		})
		same(t, "P13.1: Super", out, []any{s, s})
		isPuts(t, "P13.1: Save where nothing changed", changes)
	}
}

func TestNewSuper(t *testing.T) {
	blocks := newSupers()
	for what, b := range noSupers(t) {
		blocks[what] = b
	}
	for what, b := range blocks {
		v := volume{0: b}
		out, changes := v.do(t, 256, func(d *desk.Desk) []any {
			d.Save()
			return []any{d.Super()}
		})
		same(t, "P13.1: Super over "+what, out[0], grant.New())
		isPuts(t, "P13.1: Save over "+what, changes)
		v = volume{0: b}
		out, changes = v.do(t, 256, func(d *desk.Desk) []any {
			r, e := d.Make(file())
			d.Save()
			return []any{r, e}
		})
		same(t, "P13.3: Make over "+what, out, []any{api.Ref{Ino: 1, Serial: 1}, api.OK})
		n := file()
		n.Serial = 1
		want := grant.New()
		want.Serial, want.Used[1], want.Inodes[1] = 2, true, 1
		isPuts(t, "P13.3: Make over "+what, changes, 0, packedSuper(t, want), 1, packed(t, n))
	}
}

func TestSetSuper(t *testing.T) {
	read := map[int][]byte{0: nil, 1: make([]byte, 256), 2: packedSuper(t, grant.New()), 3: packedSuper(t, someSuper())}
	for _, b := range read {
		first := volume{0: b}.super(t)
		for _, s := range []api.Super{grant.New(), someSuper()} {
			v := volume{0: b}
			out, changes := v.do(t, 256, func(d *desk.Desk) []any {
				d.SetSuper(s)
				return []any{d.Super()}
			})
			same(t, "P13.1: SetSuper", out[0], s)
			isPuts(t, "P13.1: nothing without Save", changes)
			_, changes = v.do(t, 256, func(d *desk.Desk) []any {
				d.SetSuper(s)
				d.Save()
				return []any{d.Super()}
			})
			if s == first {
				isPuts(t, "P13.1: Save of the same super", changes)
			} else {
				isPuts(t, "P13.1: Save", changes, 0, packedSuper(t, s))
			}
			out, changes = v.do(t, 256, func(d *desk.Desk) []any {
				d.Save()
				return []any{d.Super()}
			})
			same(t, "P13.1: the next desk's super", out[0], s)
			isPuts(t, "P13.1: the next desk's Save", changes)
		}
	}
}

func TestSaveThereAndBack(t *testing.T) {
	for _, b := range [][]byte{nil, make([]byte, 256), packedSuper(t, grant.New()), packedSuper(t, someSuper())} {
		v := volume{0: b}
		first := v.super(t)
		other := first
		other.Serial++
		_, changes := v.do(t, 256, func(d *desk.Desk) []any {
			d.SetSuper(other)
			d.SetSuper(first)
			d.Save()
			return nil
		})
		isPuts(t, "P13.1: Save of what was read", changes)
		_, changes = v.do(t, 256, func(d *desk.Desk) []any {
			d.SetSuper(other)
			d.Save()
			d.Save()
			return nil
		})
		isPuts(t, "P13.1: Save twice", changes, 0, packedSuper(t, other))
		_, changes = v.do(t, 256, func(d *desk.Desk) []any {
			d.SetSuper(first)
			d.Save()
			d.SetSuper(other)
			d.Save()
			return nil
		})
		isPuts(t, "P13.1: Save there and back", changes, 0, packedSuper(t, other))
	}
}

// TestSaveOfEach: whatever makes the super another one, Save puts it.
func TestSaveOfEach(t *testing.T) {
	v := volume{}
	r, n := v.made(t, 256, map[int][]byte{0: text(1, 300)})
	for what, f := range map[string]func(d *desk.Desk){
		"Make":  func(d *desk.Desk) { d.Make(file()) },
		"Drop":  func(d *desk.Desk) { d.Drop(r.Ino) },
		"Write": func(d *desk.Desk) { d.Write(n, 600, text(2, 1)) },
		"Cut":   func(d *desk.Desk) { d.Cut(n, 0) },
	} {
		x := v.copied()
		without, _ := x.do(t, 256, func(d *desk.Desk) []any {
			f(d)
			return []any{d.Super()}
		})
		x = v.copied()
		with, _ := x.do(t, 256, func(d *desk.Desk) []any {
			f(d)
			d.Save()
			return []any{d.Super()}
		})
		same(t, "P13.1: "+what, with, without)
		same(t, "P13.1: Save behind "+what, x.super(t), with[0])
		if with[0].(api.Super) == v.super(t) {
			t.Fatalf("P13.1: %s doesn't change the super", what)
		}
	}
}

// TestSuperThatMayNotBe: it has no block.
func TestSuperThatMayNotBe(t *testing.T) {
	bad := someSuper()
	bad.Inodes[3] = bad.Inodes[1]
	for _, s := range []api.Super{{}, bad} {
		v := volume{}
		out, changes := v.do(t, 256, func(d *desk.Desk) []any {
			d.SetSuper(s)
			d.Save()
			return []any{d.Super()}
		})
		same(t, "P13.1: SetSuper", out[0], s)
		isPuts(t, "P13.1: Save of what may not be", changes)
	}
}

// TestNoInodeHasNumber0: whatever a super says of it.
func TestNoInodeHasNumber0(t *testing.T) {
	n := file()
	n.Serial = 1
	v := volume{7: packed(t, n)}
	s := grant.New()
	s.Inodes[0] = 7
	out, changes := v.do(t, 256, func(d *desk.Desk) []any {
		d.SetSuper(s)
		_, e := d.Get(api.Ref{Ino: 0, Serial: 1})
		d.Set(0, n)
		d.Drop(0)
		return []any{e, d.Super()}
	})
	same(t, "P13.2: Get of 0", out, []any{api.Stale, s})
	isPuts(t, "P13.2: Set and Drop of 0", changes)
}

// TestTwoDesks: one whose super is as it read it puts nothing, though another one has put another super.
func TestTwoDesks(t *testing.T) {
	v := volume{}
	x := view.New(source{v: v}.get)
	first, second := desk.New(x, 256), desk.New(x, 256)
	if _, ok := x.Run(func() {
		first.Super()
		second.Super()
		first.SetSuper(someSuper())
		first.Save()
		second.Save()
	}); !ok {
		t.Fatal("P13.1: no end")
	}
	isPuts(t, "P13.1: two desks", x.Changes(), 0, packedSuper(t, someSuper()))
}

// TestNoView: a desk of no view has a new super, and no slot is known.
func TestNoView(t *testing.T) {
	d := desk.New(nil, 256)
	same(t, "P13.1: Super of no view", d.Super(), grant.New())
	d.Save()
	if _, e := d.Get(api.Ref{Ino: 1, Serial: 1}); e != api.Stale {
		t.Fatalf("P13.2: Get of no view: %v", e)
	}
}
