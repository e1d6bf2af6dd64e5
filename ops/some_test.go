package ops_test

import (
	"math"
	"math/rand"
	"strings"

	"oubliette/api"
)

// badRefs: what names no node.
var badRefs = []api.Ref{{}, {Ino: 1}, {Ino: 1, Serial: 1 << 40}, {Ino: 2, Serial: 1 << 40}, {Ino: 0, Serial: 1}, {Ino: -1, Serial: 1}, {Ino: 65, Serial: 1}, {Ino: 64, Serial: 1}, {Ino: math.MinInt, Serial: 1}, {Ino: math.MaxInt, Serial: 1}, {Ino: 1, Serial: math.MaxUint64}, {Ino: 1 + 256, Serial: 1}, {Ino: 1 + 1<<32, Serial: 1}}

// badNames: names that may not be.
var badNames = []string{"", ".", "..", "a/b", "/", "\x1f", "\x7f", "\xff", "a\xc3", "\xed\xa0\x80", long(33), long(32) + "é", strings.Repeat("é", 17), long(33) + "/", long(400)}

// goodNames: names that may be.
var goodNames = []string{"a", "b", "c", "d", "e", "n00", "n01", "é", "...", " ", "\u0080", "\U0010ffff", long(32), long(31) + "y", strings.Repeat("é", 16), strings.Repeat("日", 10) + "xy"}

// badPlaces: beginnings, lengths and sizes that are at an edge.
var badPlaces = []int{0, 0, 1, 255, 256, 257, 4095, 4096, 4097, 32767, 32768, 32769, -1, math.MinInt, math.MaxInt, math.MaxUint32, math.MaxUint32 + 1}

// some makes operations by chance: most of them such as are done on a state.
type some struct {
	*rand.Rand
	image api.Image
	gone  []api.Ref // what named a node once
}

// ref: what names a node, or sometimes none.
func (s *some) ref(kinds ...int) api.Ref {
	switch s.Intn(20) {
	case 0:
		return one(s.Rand, badRefs)
	case 1:
		if len(s.gone) > 0 {
			return one(s.Rand, s.gone)
		}
	}
	for range 20 {
		if len(s.image.Nodes) == 0 {
			break
		}
		n := one(s.Rand, s.image.Nodes).Attr
		if len(kinds) == 0 || n.Kind == kinds[0] || s.Intn(20) == 0 {
			return n.Ref
		}
	}
	return rootRef
}

// name: a name, most often one that may be, and often one that something has in a directory.
func (s *some) name(in api.Ref, new bool) string {
	if s.Intn(20) == 0 {
		return one(s.Rand, badNames)
	}
	for _, n := range s.image.Nodes {
		if n.Attr.Ref == in && len(n.Entries) > 0 && s.Intn(8) > 0 != new {
			return one(s.Rand, n.Entries).Name
		}
	}
	if s.Intn(3) == 0 {
		return numbered(s.Intn(40))
	}
	return one(s.Rand, goodNames)
}

// user: a user and a group, most often those that may all.
func (s *some) user() (uint32, uint32) {
	if s.Intn(5) > 0 {
		return 0, 0
	}
	return one(s.Rand, []uint32{5, 6, math.MaxUint32}), one(s.Rand, []uint32{0, 7, 8})
}

// mode: a mode, most often one that may be.
func (s *some) mode() int {
	if s.Intn(12) == 0 {
		return one(s.Rand, []int{0o1000, -1, math.MinInt, math.MaxInt, 1 << 32})
	}
	return one(s.Rand, []int{0o777, 0o755, 0o644, 0o600, 0o700, s.Intn(0o1000)})
}

// flags: an open's flags, or those of a name that is taken away.
func (s *some) flags() int {
	return one(s.Rand, []int{0, 0, 0, 1, 2, 512, 512, 513, 514, 3, -1, 1 << 32})
}

// at: a beginning, a length or a size; most often one that isn't too great for a volume.
func (s *some) at() int {
	if s.Intn(6) == 0 {
		return one(s.Rand, badPlaces)
	}
	return s.Intn(one(s.Rand, []int{300, 1200, 6000}))
}

// bytes: bytes to be written, or a text.
func (s *some) bytes() []byte {
	n := s.Intn(one(s.Rand, []int{1, 10, 257, 700}))
	if s.Intn(40) == 0 {
		n = one(s.Rand, []int{1, 255, 256, 257, 4096, 32767, 32768, 32769})
	}
	b := make([]byte, n)
	s.Read(b)
	return b
}

// change: other attributes.
func (s *some) change() api.Change {
	c := api.Change{Valid: s.Intn(16), Mode: s.mode(), Size: s.at()}
	c.Uid, c.Gid = s.user()
	if s.Intn(12) == 0 {
		c.Valid = one(s.Rand, []int{-1, 16, 17, math.MinInt, math.MaxInt, 1 << 32})
	}
	return c
}

// kinds: what kind of node Ref of an operation of a kind names most often; 0: any.
var kinds = map[int]int{
	api.OpCreate: api.Dir, api.OpMkdir: api.Dir, api.OpSymlink: api.Dir, api.OpLink: api.Dir, api.OpUnlink: api.Dir,
	api.OpRename: api.Dir, api.OpList: api.Dir, api.OpRead: api.File, api.OpWrite: api.File, api.OpReadlink: api.Symlink,
}

// op: an operation of a kind.
func (s *some) op(kind int) api.Op {
	o := api.Op{Kind: kind, Ref: s.ref(), Ref2: s.ref(), Mode: s.mode(), Flags: s.flags(), Off: s.at(), Count: s.at(), Data: s.bytes(), Set: s.change()}
	if of := kinds[kind]; of != 0 {
		o.Ref = s.ref(of)
	}
	switch kind {
	case api.OpRename:
		o.Ref2 = s.ref(api.Dir)
	case api.OpLink:
		o.Ref2 = s.ref(api.File)
	}
	if s.Intn(4) == 0 {
		o.Ref2 = o.Ref
	}
	o.Uid, o.Gid = s.user()
	makes := kind == api.OpCreate || kind == api.OpMkdir || kind == api.OpSymlink || kind == api.OpLink
	o.Name, o.Name2 = s.name(o.Ref, makes), s.name(o.Ref2, s.Intn(2) == 0)
	for range s.Intn(5) {
		o.Names = append(o.Names, one(s.Rand, []string{"..", s.name(o.Ref, false), one(s.Rand, goodNames)}))
	}
	for range s.Intn(3) {
		o.Refs = append(o.Refs, s.ref())
		o.Held = append(o.Held, s.ref())
	}
	if s.Intn(3) == 0 {
		for _, n := range s.image.Nodes {
			o.Held = append(o.Held, n.Attr.Ref)
		}
	}
	return o
}

// next: an operation of any kind: more often of one that makes or writes, than of one that takes away.
func (s *some) next() api.Op {
	if s.Intn(100) == 0 {
		return s.op(one(s.Rand, []int{0, 20, -1, math.MinInt, math.MaxInt, 1 << 32}))
	}
	if s.Intn(3) == 0 {
		return s.op(one(s.Rand, []int{api.OpCreate, api.OpCreate, api.OpMkdir, api.OpSymlink, api.OpLink, api.OpWrite, api.OpWrite, api.OpWrite, api.OpRename, api.OpRename}))
	}
	return s.op(1 + s.Intn(19))
}
