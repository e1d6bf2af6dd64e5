package plain_test

import (
	"bytes"
	"fmt"
	"math"
	"math/rand"
	"slices"
	"strings"
	"testing"

	"oubliette/api"
	"oubliette/plain"
)

// plenty: slots that are enough for all that a test makes.
const plenty = 1 << 20

func newRand(seed int64) *rand.Rand {
	return rand.New(rand.NewSource(seed))
}

// pair is a state, and the chapter's words, which are given the same.
type pair struct {
	t testing.TB
	f *plain.FS
	m *model
}

// begin: a new state.
func begin(t testing.TB, slots int) *pair {
	p := &pair{t, plain.New(slots), newModel(slots)}
	p.held("New")
	return p
}

// again: the state of its image, with so many slots.
func (p *pair) again(slots int) *pair {
	c := &pair{p.t, plain.Load(p.f.Image(), slots), p.m.copied(slots)}
	return c
}

// spare is what lies behind the end of what is handed in.
const spare = 5

// roomy: a list as new memory, with room behind its end that holds something.
func roomy[T any](l []T, fill T) []T {
	out := append([]T(nil), l...)
	for range spare {
		out = append(out, fill)
	}
	return out[:len(l)]
}

// handed: an operation as new memory, with room behind each list's end.
func handed(o api.Op) api.Op {
	o.Names = roomy(o.Names, "spare")
	o.Data = roomy(o.Data, 0xee)
	o.Refs = roomy(o.Refs, api.Ref{Ino: -7})
	o.Held = roomy(o.Held, api.Ref{Ino: -9})
	return o
}

// whole: a list with the room behind its end.
func whole[T any](l []T) []T { return l[:len(l)+spare] }

// asItWas: whether what was handed in is as it was, the room behind the ends, too.
func asItWas(o, was api.Op) bool {
	o2, was2 := o, handed(was)
	o2.Names, o2.Data, o2.Refs, o2.Held = nil, nil, nil, nil
	w := was
	w.Names, w.Data, w.Refs, w.Held = nil, nil, nil, nil
	return fmt.Sprint(o2) == fmt.Sprint(w) &&
		slices.Equal(whole(o.Names), whole(was2.Names)) &&
		bytes.Equal(whole(o.Data), whole(was2.Data)) &&
		slices.Equal(whole(o.Refs), whole(was2.Refs)) &&
		slices.Equal(whole(o.Held), whole(was2.Held))
}

// scribble: what was handed in and what was answered is written over.
func scribble(o api.Op, r api.Res) {
	for k := range whole(o.Names) {
		whole(o.Names)[k] = "over"
	}
	for k := range whole(o.Data) {
		whole(o.Data)[k] ^= 0xff
	}
	for _, l := range [][]api.Ref{whole(o.Refs), whole(o.Held)} {
		for k := range l {
			l[k] = api.Ref{Ino: 99}
		}
	}
	for k := range r.Data[:cap(r.Data)] {
		r.Data[:cap(r.Data)][k] ^= 0xff
	}
	for k := range r.Attrs[:cap(r.Attrs)] {
		r.Attrs[:cap(r.Attrs)][k] = api.Attr{Mode: 1}
	}
	for k := range r.Entries[:cap(r.Entries)] {
		r.Entries[:cap(r.Entries)][k] = api.Entry{Name: "over"}
	}
}

// copyRes: an answer as new memory.
func copyRes(r api.Res) api.Res {
	r.Attrs, r.Data, r.Entries = slices.Clone(r.Attrs), slices.Clone(r.Data), slices.Clone(r.Entries)
	return r
}

// sameRes: whether two answers are alike.
func sameRes(a, b api.Res) bool {
	return a.Code == b.Code && a.Attr == b.Attr && a.Count == b.Count && a.Slots == b.Slots && a.Free == b.Free && a.Spare == b.Spare &&
		slices.Equal(a.Attrs, b.Attrs) && bytes.Equal(a.Data, b.Data) && slices.Equal(a.Entries, b.Entries)
}

// text: an answer for a message.
func text(r api.Res) string {
	s := fmt.Sprintf("%+v", r)
	if len(s) > 400 {
		s = s[:400] + " .."
	}
	return s
}

// opText: an operation for a message.
func opText(o api.Op) string {
	o.Data = o.Data[:min(len(o.Data), 20)]
	return fmt.Sprintf("%+v", o)
}

// unlike: in what two nodes differ, "" if in nothing.
func unlike(a, b api.Node) string {
	switch {
	case a.Attr != b.Attr:
		return fmt.Sprintf("%+v, not %+v", a.Attr, b.Attr)
	case a.Parent != b.Parent || a.Cookie != b.Cookie:
		return fmt.Sprintf("node %d: parent %d, cookie %d; not %d, %d", a.Attr.Ref.Ino, a.Parent, a.Cookie, b.Parent, b.Cookie)
	case !slices.Equal(a.Entries, b.Entries):
		return fmt.Sprintf("node %d: entries %v, not %v", a.Attr.Ref.Ino, a.Entries, b.Entries)
	case len(a.Blocks) != len(b.Blocks):
		return fmt.Sprintf("node %d: %d blocks, not %d", a.Attr.Ref.Ino, len(a.Blocks), len(b.Blocks))
	}
	for k, block := range b.Blocks {
		if !bytes.Equal(a.Blocks[k], block) {
			return fmt.Sprintf("node %d: block %d: %x, not %x", a.Attr.Ref.Ino, k, a.Blocks[k], block)
		}
	}
	return ""
}

// differ: in what two images differ, "" if in nothing.
func differ(a, b api.Image) string {
	if a.Serial != b.Serial {
		return fmt.Sprintf("serial %d, not %d", a.Serial, b.Serial)
	}
	if len(a.Nodes) != len(b.Nodes) {
		return fmt.Sprintf("%d nodes, not %d", len(a.Nodes), len(b.Nodes))
	}
	for k := range a.Nodes {
		if s := unlike(a.Nodes[k], b.Nodes[k]); s != "" {
			return s
		}
	}
	return ""
}

// held: the state's image and footprint are held against the words.
func (p *pair) held(what string) {
	p.t.Helper()
	if s := differ(p.f.Image(), p.m.image()); s != "" {
		p.t.Fatalf("P16.1: Image behind %s: %s", what, s)
	}
	if n := p.f.Footprint(); n != p.m.footprint() {
		p.t.Fatalf("P16.1: Footprint behind %s: %d, not %d", what, n, p.m.footprint())
	}
}

// ask: an operation is done: its answer, as the words say it.
func (p *pair) ask(o api.Op) api.Res {
	p.t.Helper()
	h, want := handed(o), p.m.do(o)
	got := p.f.Do(h)
	if !sameRes(got, want) {
		p.t.Fatalf("P16.1: %s: %s; not %s", opText(o), text(got), text(want))
	}
	if !asItWas(h, o) {
		p.t.Fatalf("P16.2: what was handed in isn't as it was: %s; not %s", opText(h), opText(o))
	}
	out := copyRes(got)
	scribble(h, got)
	return out
}

// do: an operation is done, and the state behind it is held against the words, node by node.
func (p *pair) do(o api.Op) api.Res {
	p.t.Helper()
	r := p.ask(o)
	p.held(opText(o))
	return r
}

// fails: an operation is refused with an error, and nothing else is answered or changed.
func (p *pair) fails(o api.Op, code api.Errno) {
	p.t.Helper()
	was := p.f.Image()
	if r := p.do(o); !sameRes(r, api.Res{Code: code}) {
		p.t.Fatalf("P16.1: %s: %s; not %d alone", opText(o), text(r), code)
	}
	if s := differ(p.f.Image(), was); s != "" {
		p.t.Fatalf("P16.3: %s was refused: %s", opText(o), s)
	}
}

// fine: an operation is done without an error.
func (p *pair) fine(o api.Op) api.Res {
	p.t.Helper()
	r := p.do(o)
	if r.Code != api.OK {
		p.t.Fatalf("P16.1: %s: %d", opText(o), r.Code)
	}
	return r
}

// reads: an operation is done without an error, and changes nothing.
func (p *pair) reads(o api.Op) api.Res {
	p.t.Helper()
	was := p.f.Image()
	r := p.fine(o)
	if s := differ(p.f.Image(), was); s != "" {
		p.t.Fatalf("P16.3: %s changes something: %s", opText(o), s)
	}
	return r
}

// either: an operation is done, or refused with an error, if that isn't OK.
func (p *pair) either(o api.Op, code api.Errno) {
	p.t.Helper()
	if code == api.OK {
		p.fine(o)
		return
	}
	p.fails(o, code)
}

// The root, and what operations of the user 0 ask for most.

var rootRef = api.Ref{Ino: 1, Serial: 1}

func (p *pair) create(in api.Ref, name string) api.Ref {
	p.t.Helper()
	return p.fine(api.Op{Kind: api.OpCreate, Ref: in, Name: name, Mode: 0o644}).Attr.Ref
}

func (p *pair) mkdir(in api.Ref, name string) api.Ref {
	p.t.Helper()
	return p.fine(api.Op{Kind: api.OpMkdir, Ref: in, Name: name, Mode: 0o755}).Attr.Ref
}

func (p *pair) symlink(in api.Ref, name, to string) api.Ref {
	p.t.Helper()
	return p.fine(api.Op{Kind: api.OpSymlink, Ref: in, Name: name, Data: []byte(to)}).Attr.Ref
}

func (p *pair) link(in api.Ref, name string, n api.Ref) {
	p.t.Helper()
	p.fine(api.Op{Kind: api.OpLink, Ref: in, Name: name, Ref2: n})
}

func (p *pair) write(n api.Ref, off int, b string) {
	p.t.Helper()
	p.fine(api.Op{Kind: api.OpWrite, Ref: n, Off: off, Data: []byte(b)})
}

// read: a file's bytes, all of them.
func (p *pair) read(n api.Ref) string {
	p.t.Helper()
	return string(p.reads(api.Op{Kind: api.OpRead, Ref: n, Count: math.MaxInt}).Data)
}

func (p *pair) stat(n api.Ref) api.Attr {
	p.t.Helper()
	return p.reads(api.Op{Kind: api.OpStat, Ref: n}).Attr
}

// node: a node of the state's image.
func (p *pair) node(n api.Ref) api.Node {
	p.t.Helper()
	for _, k := range p.f.Image().Nodes {
		if k.Attr.Ref == n {
			return k
		}
	}
	p.t.Fatalf("P16.1: there is no node %v", n)
	return api.Node{}
}

// set: a node's mode, user and group.
func (p *pair) set(n api.Ref, mode int, uid, gid uint32) {
	p.t.Helper()
	p.fine(api.Op{Kind: api.OpChange, Ref: n, Set: api.Change{Valid: 7, Mode: mode, Uid: uid, Gid: gid}})
}

// orphaned: a name is taken away of a node that is held.
func (p *pair) orphaned(in api.Ref, name string, flags int, n api.Ref) {
	p.t.Helper()
	p.fine(api.Op{Kind: api.OpUnlink, Ref: in, Name: name, Flags: flags, Held: []api.Ref{n}})
}

// filled: a directory of so many names, of as few nodes as can be.
func (p *pair) filled(in api.Ref, name string, count int) api.Ref {
	p.t.Helper()
	d := p.mkdir(in, name)
	var n api.Ref
	for k := range count {
		if k%api.MaxLinks == 0 {
			n = p.create(d, numbered(k))
			continue
		}
		p.link(d, numbered(k), n)
	}
	return d
}

// numbered: a name that tells a number.
func numbered(k int) string { return fmt.Sprintf("n%02d", k) }

// crowded: nodes are made in a directory of the root till there are so many.
func (p *pair) crowded(name string, count int) {
	p.t.Helper()
	for k := 0; len(p.m.things) < count; k++ {
		if k%30 == 0 {
			p.mkdir(rootRef, fmt.Sprint(name, k))
			continue
		}
		p.create(p.in(rootRef, fmt.Sprint(name, k/30*30)), numbered(k))
	}
}

// in: what has a name in a directory.
func (p *pair) in(d api.Ref, name string) api.Ref {
	return p.m.named(p.m.at(d), name).attr().Ref
}

// long: a name of so many bytes.
func long(n int) string { return strings.Repeat("x", n) }
