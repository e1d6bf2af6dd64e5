package ops_test

import (
	"bytes"
	"math"
	"testing"

	"oubliette/api"
	"oubliette/grant"
	"oubliette/ops"
	"oubliette/plain"
)

// empties: volumes without a file system: slots without bytes, of bytes 0, and a slot 0 that is no super's.
func empties() map[string]volume {
	zeros := volume{}
	for slot := range 256 {
		zeros[slot] = make([]byte, 256)
	}
	super, _ := grant.Pack(grant.New())
	turned := bytes.Clone(super)
	turned[0]++
	return map[string]volume{
		"no bytes":         {},
		"bytes 0":          zeros,
		"a short slot 0":   {0: {1, 2, 3}},
		"a long slot 0":    {0: append(bytes.Clone(super), 0)},
		"a turned slot 0":  {0: turned},
		"bytes in slot 0":  {0: bytes.Repeat([]byte{0xa5}, 256)},
		"an inode's slot":  {0: append([]byte{2, 0xed, 1}, make([]byte, 253)...), 1: super},
		"a super of none":  {0: super},
		"all but the sign": {0: append(make([]byte, 4), bytes.Repeat([]byte{0xff}, 252)...)},
	}
}

// manySlots: numbers of slots, from none that may be to the greatest.
var manySlots = []int{0, -1, -256, math.MinInt, 1, 2, 3, 8, 16, 256, 257, 300, 1 << 32, math.MaxInt}

// TestNoFileSystem: there all operations are Stale, but OpReclaim and those three that tell nothing of it.
func TestNoFileSystem(t *testing.T) {
	for what, v := range empties() {
		for _, slots := range manySlots {
			for kind := api.OpRoot; kind < api.OpReclaim; kind++ {
				for _, r := range []api.Ref{rootRef, {}, {Ino: 2, Serial: 2}, {Ino: -1, Serial: 1}} {
					want := api.Res{Code: api.Stale}
					switch kind {
					case api.OpStatfs:
						want = api.Res{Slots: slots, Free: slots - 1, Spare: 64}
					case api.OpSync, api.OpRelease:
						want = api.Res{}
					}
					o := api.Op{Kind: kind, Ref: r, Ref2: r, Name: "a", Name2: "b", Names: []string{"a"}, Mode: 0o600, Data: []byte("to"), Refs: []api.Ref{r}, Count: 1000}
					for _, o.Name = range []string{"a", "", "a/b", long(33)} {
						if a := do(v.get, slots, o); !a.same(answer{res: want, ok: true}) {
							t.Fatalf("P17.2: %s, %d slots: %s: %v; not %s", what, slots, opText(o), a, text(want))
						}
					}
				}
			}
		}
	}
}

// TestReclaimMakes: OpReclaim makes a file system where there is none: a new state's.
func TestReclaimMakes(t *testing.T) {
	for what, v := range empties() {
		for _, slots := range manySlots {
			a := do(v.get, slots, api.Op{Kind: api.OpReclaim, Uid: 5, Gid: 7, Mode: 0o111, Name: "a"})
			if slots < 2 {
				if a.inForm(t, what); !a.same(answer{res: api.Res{Code: api.NoSpace}, ok: true}) {
					t.Fatalf("P17.2: %s, %d slots: OpReclaim: %v", what, slots, a)
				}
				continue
			}
			if len(a.puts) != 2 || a.puts[0].Slot != 0 || a.puts[1].Slot != 1 || !sameRes(a.res, api.Res{}) || !a.ok || a.slot != 0 {
				t.Fatalf("P17.2: %s, %d slots: OpReclaim: %v", what, slots, a)
			}
			p := &pair{t, slots, v.copied(), plain.New(slots)}
			p.v.apply(a.puts)
			if s := differ(p.image(), p.f.Image()); s != "" {
				t.Fatalf("P17.2: %s, %d slots: Image: %s", what, slots, s)
			}
			p.reads(api.Op{Kind: api.OpRoot})
			p.reads(api.Op{Kind: api.OpStatfs})
		}
	}
}

// TestReclaimAgain: where there is a file system OpReclaim makes none.
func TestReclaimAgain(t *testing.T) {
	p := begin(t, 16)
	if r := p.reads(api.Op{Kind: api.OpReclaim}); !sameRes(r, api.Res{}) {
		t.Fatalf("P17.2: OpReclaim: %s", text(r))
	}
	a := p.create(rootRef, "a")
	p.reads(api.Op{Kind: api.OpReclaim})
	if p.stat(a).Links != 1 {
		t.Fatalf("P17.2: %+v", p.stat(a))
	}
}

// TestImageOfNone: where there is no file system the next serial is 1, and there are no nodes.
func TestImageOfNone(t *testing.T) {
	for what, v := range empties() {
		for _, slots := range manySlots {
			i, e, slot, ok := ops.Image(v.get, slots)
			if i.Serial != 1 || len(i.Nodes) != 0 || e != api.OK || slot != 0 || !ok {
				t.Fatalf("P17.4: %s, %d slots: Image: %+v, %d, %d, %v", what, slots, i, e, slot, ok)
			}
		}
	}
}

// TestNothingKnown: slot 0 is wanted where nothing is known, and of a source that is none.
func TestNothingKnown(t *testing.T) {
	none := func(int) ([]byte, bool) { return []byte("x"), false }
	for _, get := range []func(int) ([]byte, bool){none, nil} {
		for kind := api.OpRoot; kind <= api.OpReclaim; kind++ {
			if kind == api.OpSync {
				continue // what it may come to isn't said
			}
			o := api.Op{Kind: kind, Ref: rootRef, Refs: []api.Ref{rootRef}, Ref2: rootRef, Name: "a", Name2: "b", Mode: 0o600}
			if a := do(get, 16, o); !a.same(answer{}) {
				t.Fatalf("P17.1: %s: %v", opText(o), a)
			}
		}
		i, e, slot, ok := ops.Image(get, 16)
		if i.Serial != 0 || len(i.Nodes) != 0 || e != api.OK || slot != 0 || ok {
			t.Fatalf("P17.4: Image: %+v, %d, %d, %v", i, e, slot, ok)
		}
	}
}

// TestManySlots: numbers of slots above what a volume may have: a state with so many answers alike, as long as slots are left; then NoSpace, and nothing is put.
func TestManySlots(t *testing.T) {
	for _, slots := range []int{257, 300, 1 << 32, math.MaxInt} {
		p := begin(t, slots)
		a, b, l := p.create(rootRef, "a"), p.create(rootRef, "b"), p.create(rootRef, "l")
		p.write(a, 0, string(bytes.Repeat([]byte("x"), 120*256)))
		p.write(b, 0, string(bytes.Repeat([]byte("y"), 120*256)))
		// The super, the root with its leaf, three files, two lists: 248 slots are used.
		p.write(l, 0, string(bytes.Repeat([]byte("z"), 7*256)))
		for _, c := range []struct {
			o    api.Op
			code api.Errno
		}{
			{api.Op{Kind: api.OpWrite, Ref: l, Off: 7 * 256, Data: make([]byte, 257)}, api.NoSpace},
			{api.Op{Kind: api.OpCreate, Ref: rootRef, Name: long(32), Mode: 0o600}, api.OK},
			{api.Op{Kind: api.OpCreate, Ref: rootRef, Name: "more", Mode: 0o600}, api.NoSpace},
			{api.Op{Kind: api.OpSymlink, Ref: rootRef, Name: "more", Data: []byte("to")}, api.NoSpace},
			{api.Op{Kind: api.OpWrite, Ref: l, Off: 7 * 256, Data: make([]byte, 1)}, api.NoSpace},
		} {
			now := do(p.v.get, slots, c.o)
			if now.inForm(t, opText(c.o)); now.res.Code != c.code {
				t.Fatalf("P17.1: %d slots: %s: %v; not %d", slots, opText(c.o), now, c.code)
			}
			if c.code == api.OK {
				p.ask(c.o)
			}
		}
		p.reads(api.Op{Kind: api.OpStatfs})
		if s := differ(p.image(), p.f.Image()); s != "" {
			t.Fatalf("P17.1: Image: %s", s)
		}
	}
}
