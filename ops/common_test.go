package ops_test

import (
	"bytes"
	"fmt"
	"maps"
	"math/rand"
	"slices"
	"strings"
	"testing"

	"oubliette/api"
	"oubliette/grant"
	"oubliette/ops"
	"oubliette/plain"
)

func newRand(seed int64) *rand.Rand { return rand.New(rand.NewSource(seed)) }

// one: one of a list.
func one[T any](r *rand.Rand, l []T) T { return l[r.Intn(len(l))] }

// volume is what slots hold; of what isn't there the source tells bytes 0 or no bytes.
type volume map[int][]byte

// copied: the volume as new memory.
func (v volume) copied() volume {
	out := volume{}
	for slot, b := range v {
		out[slot] = bytes.Clone(b)
	}
	return out
}

// get: the volume as a source that knows all slots.
func (v volume) get(slot int) ([]byte, bool) {
	if b, ok := v[slot]; ok || slot%2 == 0 {
		return b, true
	}
	return make([]byte, 256), true
}

// apply: the slots hold what was put.
func (v volume) apply(puts []api.Put) {
	for _, p := range puts {
		if len(p.Block) == 0 {
			delete(v, p.Slot)
			continue
		}
		v[p.Slot] = bytes.Clone(p.Block)
	}
}

// answer is what Do answers.
type answer struct {
	res  api.Res
	puts []api.Put
	slot int
	ok   bool
}

// do: what Do answers over a source.
func do(get func(slot int) ([]byte, bool), slots int, o api.Op) answer {
	var a answer
	a.res, a.puts, a.slot, a.ok = ops.Do(get, slots, o)
	return a
}

// same: whether two answers are alike.
func (a answer) same(b answer) bool {
	return a.slot == b.slot && a.ok == b.ok && sameRes(a.res, b.res) && samePuts(a.puts, b.puts)
}

func (a answer) String() string {
	return fmt.Sprintf("%s, puts %s, %d, %v", text(a.res), putsText(a.puts), a.slot, a.ok)
}

func samePuts(a, b []api.Put) bool {
	return slices.EqualFunc(a, b, func(x, y api.Put) bool { return x.Slot == y.Slot && bytes.Equal(x.Block, y.Block) })
}

// sameRes: whether two results are alike.
func sameRes(a, b api.Res) bool {
	return a.Code == b.Code && a.Attr == b.Attr && a.Count == b.Count && a.Slots == b.Slots && a.Free == b.Free && a.Spare == b.Spare &&
		slices.Equal(a.Attrs, b.Attrs) && bytes.Equal(a.Data, b.Data) && slices.Equal(a.Entries, b.Entries)
}

// short: a text for a message.
func short(s string) string {
	if len(s) > 400 {
		return s[:400] + " .."
	}
	return s
}

func text(r api.Res) string { return short(fmt.Sprintf("%+v", r)) }

func opText(o api.Op) string {
	o.Data = o.Data[:min(len(o.Data), 20)]
	return short(fmt.Sprintf("%+v", o))
}

func putsText(puts []api.Put) string {
	var s []string
	for _, p := range puts {
		s = append(s, fmt.Sprintf("%d (%d bytes)", p.Slot, len(p.Block)))
	}
	return "[" + strings.Join(s, " ") + "]"
}

// unlike: in what two nodes differ, "" if in nothing.
func unlike(a, b api.Node) string {
	switch {
	case a.Attr != b.Attr:
		return fmt.Sprintf("%+v, not %+v", a.Attr, b.Attr)
	case a.Parent != b.Parent || a.Cookie != b.Cookie:
		return fmt.Sprintf("node %d: parent %d, cookie %d; not %d, %d", a.Attr.Ref.Ino, a.Parent, a.Cookie, b.Parent, b.Cookie)
	case !slices.Equal(a.Entries, b.Entries):
		return fmt.Sprintf("node %d: entries %v, not %v", a.Attr.Ref.Ino, a.Entries, b.Entries)
	case !maps.EqualFunc(a.Blocks, b.Blocks, bytes.Equal):
		return short(fmt.Sprintf("node %d: blocks %x, not %x", a.Attr.Ref.Ino, a.Blocks, b.Blocks))
	}
	return ""
}

// differ: in what two images differ, "" if in nothing.
func differ(a, b api.Image) string {
	if a.Serial != b.Serial || len(a.Nodes) != len(b.Nodes) {
		return fmt.Sprintf("serial %d, %d nodes; not %d, %d", a.Serial, len(a.Nodes), b.Serial, len(b.Nodes))
	}
	for k := range a.Nodes {
		if s := unlike(a.Nodes[k], b.Nodes[k]); s != "" {
			return s
		}
	}
	return ""
}

// spare is what lies behind the end of what is handed in.
const spare = 5

// roomy: a list as new memory, with room behind its end that holds something.
func roomy[T any](l []T, fill T) []T {
	out := append([]T(nil), l...)
	for range spare {
		out = append(out, fill)
	}
	return out[:len(l)]
}

// whole: a list with the room behind its end.
func whole[T any](l []T) []T { return l[:len(l)+spare] }

// handed: an operation as new memory, with room behind each list's end.
func handed(o api.Op) api.Op {
	o.Names = roomy(o.Names, "spare")
	o.Data = roomy(o.Data, 0xee)
	o.Refs = roomy(o.Refs, api.Ref{Ino: -7})
	o.Held = roomy(o.Held, api.Ref{Ino: -9})
	return o
}

// asItWas: whether what was handed in is as it was, the room behind the ends, too.
func asItWas(o, was api.Op) bool {
	w := handed(was)
	return slices.Equal(whole(o.Names), whole(w.Names)) && bytes.Equal(whole(o.Data), whole(w.Data)) &&
		slices.Equal(whole(o.Refs), whole(w.Refs)) && slices.Equal(whole(o.Held), whole(w.Held))
}

// scribble: what was answered is written over, the room behind the ends, too.
func (a answer) scribble() {
	for k := range a.res.Data[:cap(a.res.Data)] {
		a.res.Data[:cap(a.res.Data)][k] ^= 0xff
	}
	for k := range a.res.Attrs[:cap(a.res.Attrs)] {
		a.res.Attrs[:cap(a.res.Attrs)][k] = api.Attr{Mode: 1}
	}
	for k := range a.res.Entries[:cap(a.res.Entries)] {
		a.res.Entries[:cap(a.res.Entries)][k] = api.Entry{Name: "over"}
	}
	for _, p := range a.puts {
		for k := range p.Block[:cap(p.Block)] {
			p.Block[:cap(p.Block)][k] ^= 0xff
		}
	}
}

// copied: an answer as new memory.
func (a answer) copied() answer {
	a.res.Attrs, a.res.Data, a.res.Entries = slices.Clone(a.res.Attrs), slices.Clone(a.res.Data), slices.Clone(a.res.Entries)
	a.puts = slices.Clone(a.puts)
	for k := range a.puts {
		a.puts[k].Block = bytes.Clone(a.puts[k].Block)
	}
	return a
}

// inForm: what is put is in its form: by rising slots, each once, blocks or no bytes; nothing with an error.
func (a answer) inForm(t testing.TB, what string) {
	t.Helper()
	if a.res.Code != api.OK && (len(a.puts) > 0 || !sameRes(a.res, api.Res{Code: a.res.Code})) {
		t.Fatalf("P17.1: %s: beside an error: %v", what, a)
	}
	last := -1
	for _, p := range a.puts {
		if p.Slot <= last || len(p.Block) != 0 && len(p.Block) != 256 {
			t.Fatalf("P17.1: %s: %v", what, a)
		}
		last = p.Slot
	}
}

// again: an operation is asked again and again, each time with the slot that it wanted known: what is answered at last. Which slots it wanted.
func (v volume) again(t testing.TB, slots int, o api.Op) (answer, map[int]bool) {
	t.Helper()
	known := map[int]bool{}
	for {
		a := do(func(slot int) ([]byte, bool) {
			if !known[slot] {
				return []byte("what isn't known"), false
			}
			return v.get(slot)
		}, slots, o)
		if a.ok {
			return a, known
		}
		if !sameRes(a.res, api.Res{}) || len(a.puts) > 0 || known[a.slot] || a.slot < 0 || a.slot > 255 {
			t.Fatalf("P17.5: %s, with %v known: %v", opText(o), known, a)
		}
		known[a.slot] = true
	}
}

// pair is a sound volume, and the state of layer 16 that has its image.
type pair struct {
	t     testing.TB
	slots int
	v     volume
	f     *plain.FS
}

// begin: a new file system.
func begin(t testing.TB, slots int) *pair {
	t.Helper()
	p := &pair{t, slots, volume{}, nil}
	a := do(p.v.get, slots, api.Op{Kind: api.OpReclaim})
	if !a.ok || a.slot != 0 || !sameRes(a.res, api.Res{}) || len(a.puts) != 2 || a.puts[0].Slot != 0 || a.puts[1].Slot != 1 {
		t.Fatalf("P17.2: OpReclaim on slots of bytes 0: %v", a)
	}
	p.v.apply(a.puts)
	p.f = plain.New(slots)
	p.held("OpReclaim")
	return p
}

// copied: the pair as another one.
func (p *pair) copied(t testing.TB) *pair {
	return &pair{t, p.slots, p.v.copied(), plain.Load(p.f.Image(), p.slots)}
}

// image: the volume's image.
func (p *pair) image() api.Image {
	p.t.Helper()
	i, e, slot, ok := ops.Image(p.v.get, p.slots)
	if e != api.OK || slot != 0 || !ok {
		p.t.Fatalf("P17.4: Image: %d, %d, %v", e, slot, ok)
	}
	return i
}

// held: the volume has the state's image, and what is used are the slots that hold something, as many as the footprint tells; what the super tells of inodes is as the state's nodes are.
func (p *pair) held(what string) {
	p.t.Helper()
	want := p.f.Image()
	if s := differ(p.image(), want); s != "" {
		p.t.Fatalf("P17.1: Image behind %s: %s", what, s)
	}
	s, e := grant.Unpack(p.v[0])
	if e != api.OK || grant.Count(s) != p.f.Footprint() || grant.Inodes(s) != len(want.Nodes) {
		p.t.Fatalf("P17.1: the super behind %s: %d, %d slots, %d inodes; not %d, %d", what, e, grant.Count(s), grant.Inodes(s), p.f.Footprint(), len(want.Nodes))
	}
	for slot, used := range s.Used {
		if used != (len(p.v[slot]) == 256) || used && slot >= p.slots {
			p.t.Fatalf("P17.1: behind %s: slot %d of %d has %d bytes; used: %v", what, slot, p.slots, len(p.v[slot]), used)
		}
	}
	for _, n := range want.Nodes {
		if s.Orphans[n.Attr.Ref.Ino] != (n.Attr.Links == 0) {
			p.t.Fatalf("P17.1: behind %s: orphans %v", what, s.Orphans)
		}
	}
}

// ask: an operation is asked for: its answer, as the state answers; what is put is put. Whether the volume was changed.
func (p *pair) ask(o api.Op) (api.Res, bool) {
	p.t.Helper()
	was, h := p.v.copied(), handed(o)
	a := do(p.v.get, p.slots, h)
	want := p.f.Do(o)
	if !a.ok || a.slot != 0 || !sameRes(a.res, want) {
		p.t.Fatalf("P17.1: %s: %v; not %s", opText(o), a, text(want))
	}
	a.inForm(p.t, opText(o))
	out := a.copied()
	a.scribble()
	if !asItWas(h, o) {
		p.t.Fatalf("P17.1: what was handed in isn't as it was: %s; not %s", opText(h), opText(o))
	}
	if !maps.EqualFunc(p.v, was, bytes.Equal) {
		p.t.Fatalf("P17.1: %s: what the source told isn't as it was", opText(o))
	}
	p.v.apply(out.puts)
	return out.res, len(out.puts) > 0
}

// do: an operation is asked for, with all slots known and with none at first; the volume behind it has the state's image.
func (p *pair) do(o api.Op) api.Res {
	p.t.Helper()
	later, _ := p.v.again(p.t, p.slots, o)
	now := do(p.v.get, p.slots, o)
	if !later.same(now) {
		p.t.Fatalf("P17.5: %s: %v; not %v", opText(o), later, now)
	}
	res, changed := p.ask(o)
	if changed {
		p.held(opText(o))
	}
	return res
}

// fails: an operation is refused with an error.
func (p *pair) fails(o api.Op, code api.Errno) {
	p.t.Helper()
	if r := p.do(o); !sameRes(r, api.Res{Code: code}) {
		p.t.Fatalf("P17.1: %s: %s; not %d alone", opText(o), text(r), code)
	}
}

// fine: an operation is done without an error.
func (p *pair) fine(o api.Op) api.Res {
	p.t.Helper()
	r := p.do(o)
	if r.Code != api.OK {
		p.t.Fatalf("P17.1: %s: %d", opText(o), r.Code)
	}
	return r
}

// either: an operation is done, or refused with an error, if that isn't OK.
func (p *pair) either(o api.Op, code api.Errno) {
	p.t.Helper()
	if code == api.OK {
		p.fine(o)
		return
	}
	p.fails(o, code)
}

// reads: an operation is done without an error, and puts nothing.
func (p *pair) reads(o api.Op) api.Res {
	p.t.Helper()
	if a := do(p.v.get, p.slots, o); len(a.puts) > 0 {
		p.t.Fatalf("P17.1: %s puts something: %v", opText(o), a)
	}
	return p.fine(o)
}

// The root, and what operations of the user 0 ask for most.

var rootRef = api.Ref{Ino: 1, Serial: 1}

func (p *pair) create(in api.Ref, name string) api.Ref {
	p.t.Helper()
	return p.fine(api.Op{Kind: api.OpCreate, Ref: in, Name: name, Mode: 0o644}).Attr.Ref
}

func (p *pair) mkdir(in api.Ref, name string) api.Ref {
	p.t.Helper()
	return p.fine(api.Op{Kind: api.OpMkdir, Ref: in, Name: name, Mode: 0o755}).Attr.Ref
}

func (p *pair) symlink(in api.Ref, name, to string) api.Ref {
	p.t.Helper()
	return p.fine(api.Op{Kind: api.OpSymlink, Ref: in, Name: name, Data: []byte(to)}).Attr.Ref
}

func (p *pair) link(in api.Ref, name string, n api.Ref) {
	p.t.Helper()
	p.fine(api.Op{Kind: api.OpLink, Ref: in, Name: name, Ref2: n})
}

func (p *pair) write(n api.Ref, off int, b string) {
	p.t.Helper()
	p.fine(api.Op{Kind: api.OpWrite, Ref: n, Off: off, Data: []byte(b)})
}

func (p *pair) unlink(in api.Ref, name string, flags int, held ...api.Ref) {
	p.t.Helper()
	p.fine(api.Op{Kind: api.OpUnlink, Ref: in, Name: name, Flags: flags, Held: held})
}

func (p *pair) stat(n api.Ref) api.Attr {
	p.t.Helper()
	return p.reads(api.Op{Kind: api.OpStat, Ref: n}).Attr
}

// own: a node's mode, and its owner: the user 5 of the group 7.
func (p *pair) own(n api.Ref, mode int) {
	p.t.Helper()
	p.fine(api.Op{Kind: api.OpChange, Ref: n, Set: api.Change{Valid: 7, Mode: mode, Uid: 5, Gid: 7}})
}

// free: how many slots are free.
func (p *pair) free() int { return p.slots - p.f.Footprint() }

// stuff: a file of the root's is written, block by block, till so many slots are free.
func (p *pair) stuff(n api.Ref, free int) {
	p.t.Helper()
	for p.free() > free {
		// One fewer than there is room for, for there may be a list among what that takes.
		more := max(1, p.free()-free-1)
		p.write(n, p.stat(n).Size, strings.Repeat("x", 256*more))
	}
	if p.free() != free {
		p.t.Fatalf("%d slots are free, not %d", p.free(), free)
	}
}

// numbered: a name that tells a number.
func numbered(k int) string { return fmt.Sprintf("n%02d", k) }

// long: a name of so many bytes.
func long(n int) string { return strings.Repeat("x", n) }
