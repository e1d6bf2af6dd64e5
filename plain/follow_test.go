package plain_test

import (
	"math/rand"
	"testing"

	"oubliette/api"
)

// follow looks at a state from operation to operation: what follows of the promises, whatever is done.
type follow struct {
	*pair
	was   api.Image
	given map[uint64]int // the number of each serial that was given
}

// byNumber: an image's nodes by their numbers.
func byNumber(i api.Image) map[int]api.Node {
	nodes := map[int]api.Node{}
	for _, n := range i.Nodes {
		nodes[n.Attr.Ref.Ino] = n
	}
	return nodes
}

// namesOf: how often each node is named by entries, each of which names one as it is.
func (f *follow) namesOf(i api.Image) map[int]int {
	f.t.Helper()
	nodes, count := byNumber(i), map[int]int{}
	for _, d := range i.Nodes {
		if d.Attr.Kind != api.Dir && len(d.Entries) > 0 {
			f.t.Fatalf("P16.3: node %d is no directory and has entries", d.Attr.Ref.Ino)
		}
		for _, e := range d.Entries {
			n := nodes[e.Ref.Ino]
			if n.Attr.Ref != e.Ref || n.Attr.Kind != e.Kind {
				f.t.Fatalf("P16.3: the entry %v of node %d names %+v", e, d.Attr.Ref.Ino, n.Attr)
			}
			if n.Attr.Kind == api.Dir && n.Parent != d.Attr.Ref.Ino {
				f.t.Fatalf("P16.3: the directory %d is named in %d, its parent is %d", e.Ref.Ino, d.Attr.Ref.Ino, n.Parent)
			}
			count[e.Ref.Ino]++
		}
	}
	return count
}

// reached: the nodes that names lead to from the root.
func reached(i api.Image) map[int]bool {
	nodes, seen := byNumber(i), map[int]bool{}
	var visit func(ino int)
	visit = func(ino int) {
		if seen[ino] {
			return
		}
		seen[ino] = true
		for _, e := range nodes[ino].Entries {
			visit(e.Ref.Ino)
		}
	}
	visit(1)
	return seen
}

// linked: the entries name the nodes, each as often as its Links (but for the root, which has no name); what isn't an orphan is reached from the root.
func (f *follow) linked(i api.Image) {
	f.t.Helper()
	count, seen := f.namesOf(i), reached(i)
	for k, n := range i.Nodes {
		ino := n.Attr.Ref.Ino
		want := n.Attr.Links
		if ino == 1 {
			want--
		}
		if count[ino] != want || n.Attr.Links < 0 || n.Attr.Links > 8 || n.Attr.Kind == api.Dir && n.Attr.Links > 1 {
			f.t.Fatalf("P16.3: node %d has %d names, its Links are %d", ino, count[ino], n.Attr.Links)
		}
		if seen[ino] != (n.Attr.Links > 0) {
			f.t.Fatalf("P16.3: node %d with Links %d: reached from the root: %t", ino, n.Attr.Links, seen[ino])
		}
		if k > 0 && i.Nodes[k-1].Attr.Ref.Ino >= ino || ino < 1 || ino > 64 {
			f.t.Fatalf("P16.1: node %d is at place %d of the image", ino, k)
		}
	}
	if n := byNumber(i)[1]; n.Attr.Ref.Serial != 1 || n.Attr.Kind != api.Dir || n.Parent != 1 {
		f.t.Fatalf("P16.3: the root: %+v", n)
	}
}

// serials: each is given once, and lies below the next one.
func (f *follow) serials(i api.Image) {
	f.t.Helper()
	for _, n := range i.Nodes {
		r := n.Attr.Ref
		ino, known := f.given[r.Serial]
		if known && ino != r.Ino || r.Serial >= i.Serial || !known && r.Serial < f.was.Serial {
			f.t.Fatalf("P16.3: the serial of %v was given already, or wasn't the next one", r)
		}
		f.given[r.Serial] = r.Ino
	}
	if i.Serial < f.was.Serial {
		f.t.Fatalf("P16.3: the next serial was %d, and is %d", f.was.Serial, i.Serial)
	}
	// What went doesn't come again.
	now := byNumber(i)
	for serial, ino := range f.given {
		if now[ino].Attr.Ref.Serial != serial {
			f.given[serial] = -1
		}
	}
}

// sums: the footprint is what the image's nodes take.
func sums(i api.Image) int {
	sum := 1
	for _, n := range i.Nodes {
		sum += 1 + n.Attr.Blocks
		for k := range n.Blocks {
			if k >= 16 {
				sum++
				break
			}
		}
	}
	return sum
}

// readings: the operations that change nothing.
var readings = map[int]bool{api.OpRoot: true, api.OpWalk: true, api.OpStat: true, api.OpRead: true, api.OpList: true, api.OpReadlink: true, api.OpStatfs: true, api.OpSync: true}

// next: an operation is done, and all that follows holds behind it.
func (f *follow) next(o api.Op) {
	f.t.Helper()
	r := f.do(o)
	i := f.f.Image()
	if readings[o.Kind] || r.Code != api.OK || o.Kind == api.OpOpen && o.Flags < 512 {
		if s := differ(i, f.was); s != "" {
			f.t.Fatalf("P16.3: %s (%d) changes something: %s", opText(o), r.Code, s)
		}
	}
	f.linked(i)
	f.serials(i)
	if n := f.f.Footprint(); n != sums(i) || n > f.m.slots {
		f.t.Fatalf("P16.3: footprint %d of %d slots, not %d", n, f.m.slots, sums(i))
	}
	f.was = i
}

// TestRows: many rows of operations by chance.
func TestRows(t *testing.T) {
	t.Parallel()
	for k := range 24 {
		slots := []int{8, 9, 12, 20, 60, plenty}[k%6]
		r := newRand(int64(100 + k))
		p := begin(t, slots)
		if k >= 18 && slots == plenty {
			p = rich(t)
		}
		f := &follow{pair: p, given: map[uint64]int{}}
		f.serials(p.f.Image())
		f.was = p.f.Image()
		for range 600 {
			f.next(likely(r, f.m))
		}
		if least := uint64(min(slots/2, 25)); f.m.serial < least {
			t.Errorf("row %d gave no more than %d serials", k, f.m.serial)
		}
	}
}

// likely: an operation by chance, whose numbers are most often those that may be.
func likely(r *rand.Rand, m *model) api.Op {
	kind := 1 + r.Intn(19)
	if r.Intn(2) == 0 {
		kind = one(r, []int{api.OpCreate, api.OpMkdir, api.OpSymlink, api.OpUnlink, api.OpUnlink, api.OpRename, api.OpRelease, api.OpReclaim})
	}
	o := some(r, m, kind)
	if r.Intn(4) > 0 {
		o.Uid, o.Mode, o.Off, o.Flags = 0, r.Intn(0o1000), r.Intn(700), one(r, []int{0, 0, 512})
		o.Data = o.Data[:len(o.Data)%300]
		o.Ref, o.Ref2 = someDir(r, m), someDir(r, m)
		if o.Kind == api.OpLink || r.Intn(4) == 0 {
			o.Ref2 = someRef(r, m)
		}
		if o.Kind == api.OpWrite || o.Kind == api.OpRead || o.Kind == api.OpChange || o.Kind == api.OpOpen {
			o.Ref = someRef(r, m)
		}
		o.Name, o.Name2 = someName(r, m, o.Ref), one(r, goodNames)
		if o.Kind == api.OpCreate || o.Kind == api.OpMkdir || o.Kind == api.OpSymlink || o.Kind == api.OpLink {
			o.Name = one(r, goodNames)
		}
	}
	if (o.Kind == api.OpUnlink || o.Kind == api.OpRename) && r.Intn(3) == 0 {
		for ino := 1; ino <= 64; ino++ {
			if n := m.things[ino]; n != nil {
				o.Held = append(o.Held, n.attr().Ref)
			}
		}
	}
	return o
}

// someDir: what names a directory.
func someDir(r *rand.Rand, m *model) api.Ref {
	var l []api.Ref
	for ino := 1; ino <= 64; ino++ {
		if n := m.things[ino]; n.is(api.Dir) {
			l = append(l, n.attr().Ref)
		}
	}
	return one(r, l)
}
