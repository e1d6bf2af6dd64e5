package plain_test

import (
	"math"
	"math/rand"
	"strconv"
	"strings"
	"testing"

	"oubliette/api"
)

// rich: a state with something of each kind: what is there to be named, and what is in the way of an operation.
func rich(t testing.TB) *pair {
	p := begin(t, plenty)
	a := p.create(rootRef, "a")
	p.write(a, 5, "ahead")
	p.write(a, 16*256, "behind")
	b := p.create(rootRef, "b")
	p.link(rootRef, "c", b)
	p.set(b, 0o640, 5, 7)
	p.symlink(rootRef, "l", "a")
	locked := p.symlink(rootRef, "k", "nowhere")
	p.set(locked, 0, 5, 7)
	d := p.mkdir(rootRef, "d")
	p.create(d, "f")
	e := p.mkdir(d, "e")
	p.mkdir(e, "g")
	own := p.mkdir(rootRef, "n")
	p.create(own, "a")
	p.mkdir(own, "h")
	p.set(own, 0o700, 5, 7)
	p.filled(rootRef, "full", 32)
	p.filled(rootRef, "most", 31)
	for k, name := range []string{"x", "y", "z"} {
		o := api.Op{Kind: []int{api.OpCreate, api.OpMkdir, api.OpSymlink}[k], Ref: rootRef, Name: name, Data: []byte("to")}
		n := p.fine(o).Attr.Ref
		p.set(n, 0o644, 5, 7)
		p.orphaned(rootRef, name, []int{0, 512, 0}[k], n)
	}
	return p
}

// one: one of a list.
func one[T any](r *rand.Rand, l []T) T { return l[r.Intn(len(l))] }

// badRefs: what names no node.
var badRefs = []api.Ref{{}, {Ino: 1}, {Ino: 1, Serial: 2}, {Ino: 2, Serial: 99}, {Ino: 0, Serial: 1}, {Ino: -1, Serial: 1}, {Ino: 65, Serial: 1}, {Ino: 64, Serial: 1}, {Ino: math.MinInt, Serial: 1}, {Ino: math.MaxInt, Serial: 1}, {Ino: 1, Serial: math.MaxUint64}, {Ino: 1 + 256, Serial: 1}, {Ino: 1 + 1<<32, Serial: 1}}

// badNames: names that may not be, and what is told of them hangs on which one it is.
var badNames = []string{"", ".", "..", "a/b", "/", "\x1f", "\x7f", "\xff", "a\xc3", "\xed\xa0\x80", long(33), long(32) + "é", strings.Repeat("é", 17), long(33) + "/", long(400)}

// goodNames: names that may be, some of which something has.
var goodNames = []string{"a", "b", "c", "d", "e", "f", "g", "h", "k", "l", "n", "full", "most", "n00", "n08", "new", "é", "...", " ", "\u0080", "\U0010ffff", long(32), strings.Repeat("é", 16)}

// special: nodes that are rare: those at the root that have a great many names, or few, and those that have none.
func special(m *model) []*thing {
	var l []*thing
	for ino := 1; ino <= 64; ino++ {
		if n := m.things[ino]; n != nil && (n.links == 0 || ino == 1) {
			l = append(l, n)
		}
	}
	for _, name := range []string{"d", "full"} {
		if n := m.named(m.things[1], name); n != nil {
			l = append(l, n)
		}
	}
	return l
}

// someRef: what names a node, or sometimes none.
func someRef(r *rand.Rand, m *model) api.Ref {
	if r.Intn(8) == 0 {
		return one(r, badRefs)
	}
	if r.Intn(3) == 0 {
		return one(r, special(m)).attr().Ref
	}
	// The least numbers are those of what is unlike the others.
	for {
		if n := m.things[1+r.Intn(30)]; n != nil {
			return n.attr().Ref
		}
	}
}

// someName: a name that something has in a directory, or none, or one that may not be.
func someName(r *rand.Rand, m *model, in api.Ref) string {
	switch r.Intn(6) {
	case 0:
		return one(r, badNames)
	case 1, 2:
		return one(r, goodNames)
	}
	n := m.at(in)
	if n == nil || len(n.names) == 0 {
		return "none"
	}
	return one(r, n.names).name
}

// someUser: a user and a group.
func someUser(r *rand.Rand) (uint32, uint32) {
	return one(r, []uint32{0, 0, 0, 5, 5, 6, math.MaxUint32}), one(r, []uint32{0, 7, 8, math.MaxUint32})
}

// someMode: a mode, most often one that may be.
func someMode(r *rand.Rand) int {
	if r.Intn(3) > 0 {
		return r.Intn(0o1000)
	}
	return one(r, []int{0, 0o777, 0o1000, 0o1777, -1, math.MinInt, math.MaxInt, 1 << 32})
}

// someFlags: flags of an open, or of a name that is taken away.
func someFlags(r *rand.Rand) int {
	return one(r, []int{0, 0, 1, 2, 512, 512, 513, 514, 3, 515, -1, 1024, 4, 1 << 32, math.MinInt, math.MaxInt})
}

// somePlace: a beginning, a length or a size.
func somePlace(r *rand.Rand) int {
	if r.Intn(2) == 0 {
		return r.Intn(5000)
	}
	return one(r, []int{0, 0, 1, 255, 256, 257, 4095, 4096, 4097, 32767, 32768, 32769, -1, math.MinInt, math.MaxInt, math.MaxUint32, math.MaxUint32 + 1})
}

// someBytes: bytes to be written, or a symbolic link's text.
func someBytes(r *rand.Rand) []byte {
	n := r.Intn(600)
	if r.Intn(3) == 0 {
		n = one(r, []int{0, 0, 1, 255, 256, 257, 32767, 32768, 32769})
	}
	b := make([]byte, n)
	r.Read(b)
	return b
}

// some: an operation of a kind, by chance.
func some(r *rand.Rand, m *model, kind int) api.Op {
	o := api.Op{Kind: kind, Ref: someRef(r, m), Ref2: someRef(r, m), Mode: someMode(r), Flags: someFlags(r), Off: somePlace(r), Count: somePlace(r), Data: someBytes(r)}
	if r.Intn(4) == 0 {
		o.Ref2 = o.Ref
	}
	o.Uid, o.Gid = someUser(r)
	o.Name, o.Name2 = someName(r, m, o.Ref), someName(r, m, o.Ref2)
	if r.Intn(4) == 0 {
		o.Name2 = o.Name
	}
	for range r.Intn(5) {
		o.Names = append(o.Names, one(r, []string{"..", "..", "d", "e", "full", "n", one(r, goodNames), one(r, badNames)}))
	}
	for range r.Intn(3) {
		o.Refs = append(o.Refs, someRef(r, m))
		o.Held = append(o.Held, someRef(r, m))
	}
	o.Set = api.Change{Valid: r.Intn(16), Mode: someMode(r), Size: somePlace(r)}
	o.Set.Uid, o.Set.Gid = someUser(r)
	if r.Intn(10) == 0 {
		o.Set.Valid = one(r, []int{-1, 16, 17, math.MinInt, math.MaxInt, 1 << 32})
	}
	return o
}

// seen counts of an operation's errors how often each was the only one, and how often two had a reason.
type seen struct {
	alone [20]int
	both  [20][20]int
}

// count: what errors an operation has a reason for.
func (s *seen) count(l []fault) {
	var hold []int
	for k, f := range l {
		if f.holds {
			hold = append(hold, k)
		}
	}
	if len(hold) == 1 {
		s.alone[hold[0]]++
	}
	if len(hold) > 1 {
		for _, k := range hold[1:] {
			s.both[hold[0]][k]++
		}
	}
}

// never: of an operation's errors those two by two for which there is never a reason at once.
func never(kind, a, b int) bool {
	if a == 0 && b == 1 && kind != api.OpChange && kind != api.OpOpen {
		return true // no node, and one of the wrong kind
	}
	switch kind {
	case api.OpChange:
		return a == 5 && b == 6
	case api.OpOpen:
		return a == 2 && b == 3
	case api.OpCreate, api.OpMkdir, api.OpSymlink, api.OpLink:
		return a == 0 && b == 2
	case api.OpUnlink:
		return a == 5 || a == 7
	case api.OpRename:
		return a == 2 && b < 5 || a == 9 && b < 14 || a == 11 && b < 15 || a == 13 && b == 14
	}
	return false
}

// whole: whether each error was seen alone, and each with the next one that there may be beside it.
func (s *seen) whole(t *testing.T, kind int, l []fault) {
	t.Helper()
	for a := range l {
		if s.alone[a] == 0 {
			t.Errorf("operation %d: error %d of its list (%d) is never the only one", kind, a, l[a].code)
		}
		b := a + 1
		for b < len(l) && never(kind, a, b) {
			b++
		}
		if b < len(l) && s.both[a][b] == 0 {
			t.Errorf("operation %d: errors %d and %d of its list never come together", kind, a, b)
		}
	}
}

// refusing: those operations that tell errors of a list.
var refusing = []int{api.OpStat, api.OpChange, api.OpOpen, api.OpCreate, api.OpMkdir, api.OpSymlink, api.OpLink, api.OpUnlink, api.OpRename, api.OpRead, api.OpWrite, api.OpList, api.OpReadlink}

// room is a state with so much room, and the one of which it was made anew.
type room struct {
	*pair
	from *pair
	left int
}

// anew: the state as it was at first.
func (k *room) anew() {
	slots := plenty
	if k.left < plenty {
		slots = k.from.m.footprint() + k.left
	}
	k.pair = k.from.again(slots)
}

// rooms: the states with room for all, for nothing, and for a little.
func rooms(from ...*pair) []*room {
	var l []*room
	for _, p := range from {
		for _, left := range []int{plenty, plenty, plenty, 0, 1, 2, 3} {
			k := &room{from: p, left: left}
			k.anew()
			l = append(l, k)
		}
	}
	return l
}

// TestErrors: of each operation each error of its list alone, and each two that stand one behind the other: the first one is told.
func TestErrors(t *testing.T) {
	loose, tight := rich(t), rich(t)
	tight.crowded("more", 64)
	for _, kind := range refusing {
		t.Run(strconv.Itoa(kind), func(t *testing.T) {
			t.Parallel()
			r := newRand(int64(kind))
			var s seen
			states := rooms(loose, tight)
			turns := 5000
			if kind == api.OpRename {
				turns = 15000
			}
			for turn := range turns {
				p := one(r, states)
				p.t = t
				o := some(r, p.m, kind)
				s.count(p.m.faults(o))
				code := p.ask(o).Code
				if code == api.OK || turn%16 == 0 {
					p.held(opText(o))
				}
				if code == api.OK {
					p.anew()
				}
			}
			s.whole(t, kind, loose.m.faults(api.Op{Kind: kind}))
		})
	}
}
