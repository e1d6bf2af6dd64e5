package dir_test

import (
	"bytes"
	"reflect"
	"testing"

	"oubliette/api"
	"oubliette/desk"
	"oubliette/dir"
	"oubliette/grant"
	"oubliette/view"
)

// volume is what slots hold; what isn't there holds bytes 0.
type volume map[int][]byte

// dirty: all slots but slot 0 hold other bytes, as if they had been used.
func dirty() volume {
	v := volume{}
	for slot := 1; slot < 256; slot++ {
		v[slot] = block(byte(slot))
	}
	return v
}

// apply: the slots hold what was put.
func (v volume) apply(puts []api.Put) {
	for _, p := range puts {
		v[p.Slot] = bytes.Clone(p.Block)
	}
}

// do: what a function answers and puts over a volume is the same with all slots known and with none known at first; the volume holds it then.
func (v volume) do(t *testing.T, slots int, f func(d *desk.Desk) []any) ([]any, []api.Put) {
	t.Helper()
	var answers []any
	var puts []api.Put
	for _, all := range []bool{true, false} {
		known := map[int]bool{}
		x := view.New(func(slot int) ([]byte, bool) { return v[slot], all || known[slot] })
		var got []any
		for ok := false; !ok; {
			var slot int
			slot, ok = x.Run(func() { got = f(desk.New(x, slots)) })
			if !ok && known[slot] {
				t.Fatalf("P12.2: slot %d is wanted, but known", slot)
			}
			known[slot] = true
		}
		if all {
			answers, puts = got, x.Changes()
		}
		if !reflect.DeepEqual(got, answers) || !reflect.DeepEqual(x.Changes(), puts) {
			t.Fatalf("P12.5: none known at first: %v, %v; not %v, %v", got, x.Changes(), answers, puts)
		}
	}
	v.apply(puts)
	return answers, puts
}

// used: how many slots are used.
func (v volume) used(t *testing.T) int {
	t.Helper()
	s, e := grant.Unpack(v[0])
	if e != api.OK {
		t.Fatalf("P13.1: slot 0 holds no super: %x", v[0])
	}
	return grant.Count(s)
}

// directory is what a directory's inode is when it is made.
func directory() api.Inode {
	return api.Inode{Kind: api.Dir, Mode: 0o751, Uid: 3, Gid: 4, Links: 1, Version: 7, Parent: 2, Cookie: 99}
}

// fresh: a volume with one file more, whose content is that, and the file's inode and name.
func fresh(t *testing.T, content []byte) (volume, api.Inode, api.Ref) {
	t.Helper()
	v := dirty()
	v[0] = block(0)
	got, _ := v.do(t, 256, func(d *desk.Desk) []any {
		r, e := d.Make(directory())
		n, f := d.Get(r)
		if e != api.OK || f != api.OK {
			t.Fatalf("P13.3: %v, %v", e, f)
		}
		n = d.Write(n, 0, content)
		d.Set(r.Ino, n)
		d.Save()
		return []any{n, r}
	})
	return v, got[0].(api.Inode), got[1].(api.Ref)
}

// lists: what List answers, in a run of its own that puts nothing.
func (v volume) lists(t *testing.T, n api.Inode) ([]api.Entry, api.Errno) {
	t.Helper()
	got, puts := v.do(t, 256, func(d *desk.Desk) []any {
		l, e := dir.List(d, n)
		return []any{l, e}
	})
	if len(puts) != 0 {
		t.Fatalf("P14.4: List puts %v", puts)
	}
	return got[0].([]api.Entry), got[1].(api.Errno)
}

// isList: List answers that list.
func (v volume) isList(t *testing.T, n api.Inode, want []api.Entry) {
	t.Helper()
	if l, e := v.lists(t, n); e != api.OK {
		t.Fatalf("P14.4: List: %v", e)
	} else {
		sameList(t, "P14.4: List", l, want)
	}
}

// isNone: List answers IO.
func (v volume) isNone(t *testing.T, why string, n api.Inode) {
	t.Helper()
	if l, e := v.lists(t, n); e != api.IO || len(l) != 0 {
		t.Fatalf("P14.4: List, %s: %v, %v; not IO", why, l, e)
	}
}

// bare: an inode without what says how long its file is and where it lies.
func bare(n api.Inode) api.Inode {
	n.Size, n.Slots, n.List = 0, [api.Direct]int{}, 0
	return n
}

// isPut: an inode's file is a list's leaves and nothing else, and all else of it is as it was.
func isPut(t *testing.T, d *desk.Desk, n, was api.Inode, l []api.Entry) {
	t.Helper()
	want := leavesOf(l)
	if n.Size != 256*len(want) || d.Takes(n) != len(want) || n.List != 0 || bare(n) != bare(was) {
		t.Fatalf("P14.4: Put of %d leaves: %v, of %v, takes %d", len(want), n, was, d.Takes(n))
	}
	for k, slot := range d.Slots(n) {
		switch {
		case (slot != 0) != (k < len(want)):
			t.Fatalf("P14.4: Put of %d leaves: block %d has slot %d", len(want), k, slot)
		case slot != 0 && !bytes.Equal(d.See(slot), want[k]):
			t.Fatalf("P14.4: Put of %d leaves: block %d is %x", len(want), k, d.See(slot))
		}
	}
	if got := d.Read(n, 0, api.MaxFile); !bytes.Equal(got, bytes.Join(want, nil)) {
		t.Fatalf("P14.4: Put of %d leaves: %x", len(want), got)
	}
	got, e := dir.List(d, n)
	if e != api.OK {
		t.Fatalf("P14.4: List of %d leaves that were put: %v", len(want), e)
	}
	sameList(t, "P14.4: List of what was put", got, l)
}

// puts: a list is put, and its inode set, in a run of its own. The inode then.
func (v volume) puts(t *testing.T, slots int, r api.Ref, l []api.Entry) api.Inode {
	t.Helper()
	got, _ := v.do(t, slots, func(d *desk.Desk) []any {
		was, e := d.Get(r)
		if e != api.OK {
			t.Fatalf("P13.2: Get: %v", e)
		}
		n := dir.Put(d, was, l)
		if set, e := d.Get(r); set != was || e != api.OK {
			t.Fatalf("P14.4: Put set the inode: %v, %v; not %v", set, e, was)
		}
		isPut(t, d, n, was, l)
		d.Set(r.Ino, n)
		if set, e := d.Get(r); set != n || e != api.OK {
			t.Fatalf("P13.2: Get behind Set: %v, %v; not %v", set, e, n)
		}
		d.Save()
		return []any{n}
	})
	return got[0].(api.Inode)
}

// keeps: of a list that may not be, Put answers the inode as it was, and puts nothing.
func (v volume) keeps(t *testing.T, why string, r api.Ref, l []api.Entry) {
	t.Helper()
	_, puts := v.do(t, 256, func(d *desk.Desk) []any {
		n, e := d.Get(r)
		if e != api.OK {
			t.Fatalf("P13.2: Get: %v", e)
		}
		super := d.Super()
		if got := dir.Put(d, n, l); got != n {
			t.Fatalf("P14.4: Put, %s: %v, not %v", why, got, n)
		}
		if d.Super() != super {
			t.Fatalf("P14.4: Put, %s: other slots are used", why)
		}
		d.Save()
		return nil
	})
	if len(puts) != 0 {
		t.Fatalf("P14.4: Put, %s: puts %v", why, puts)
	}
}
