package desk_test

import (
	"maps"
	"slices"
	"testing"

	"oubliette/api"
	"oubliette/desk"
	"oubliette/grant"
	"oubliette/view"
)

// desk: one over a view of the volume, all of whose slots are known.
func (v volume) desk(slots int) (*desk.Desk, *view.View) {
	x := view.New(source{v: v}.get)
	return desk.New(x, slots), x
}

// wants: which slots a function wants that are used, one after the other, ahead of its end.
func (v volume) wants(t *testing.T, f func(d *desk.Desk)) []int {
	t.Helper()
	s := source{v, map[int]bool{}}
	x := view.New(s.get)
	return again(t, s, x, func() { f(desk.New(x, 256)) })
}

// TestWhatIsWanted: a call ends the run at each slot that it comes to, and at no other one.
func TestWhatIsWanted(t *testing.T) {
	v := dirty(256)
	r, n := v.made(t, 256, map[int][]byte{0: text(1, 300), 4096: text(2, 300)})
	s := v.slotsOf(n)
	at, list := v.super(t).Inodes[r.Ino], n.List
	direct := n
	direct.List = 0
	for what, c := range map[string]struct {
		f    func(d *desk.Desk)
		want []int
	}{
		"Super":               {func(d *desk.Desk) { d.Super() }, []int{0}},
		"SetSuper":            {func(d *desk.Desk) { d.SetSuper(grant.New()) }, []int{0}},
		"Save":                {func(d *desk.Desk) { d.Save() }, []int{0}},
		"See":                 {func(d *desk.Desk) { d.See(9) }, []int{9}},
		"Get":                 {func(d *desk.Desk) { d.Get(r) }, []int{0, at}},
		"Get of none":         {func(d *desk.Desk) { d.Get(api.Ref{Ino: 65}) }, nil},
		"Set":                 {func(d *desk.Desk) { d.Set(r.Ino, n) }, []int{0}},
		"Make":                {func(d *desk.Desk) { d.Make(n) }, []int{0}},
		"Drop":                {func(d *desk.Desk) { d.Drop(r.Ino) }, []int{0, at, list}},
		"Slots":               {func(d *desk.Desk) { d.Slots(n) }, []int{list}},
		"Takes":               {func(d *desk.Desk) { d.Takes(n) }, []int{list}},
		"Needs":               {func(d *desk.Desk) { d.Needs(n, 0, 5000) }, []int{list}},
		"Slots, no list":      {func(d *desk.Desk) { d.Slots(direct) }, nil},
		"Takes, no list":      {func(d *desk.Desk) { d.Takes(direct) }, nil},
		"Needs, no list":      {func(d *desk.Desk) { d.Needs(direct, 0, 5000) }, nil},
		"Cut, no list":        {func(d *desk.Desk) { d.Cut(direct, 256) }, []int{0}},
		"Needs of nothing":    {func(d *desk.Desk) { d.Needs(n, 5000, 0) }, nil},
		"Needs, direct":       {func(d *desk.Desk) { d.Needs(n, 0, 4096) }, nil},
		"Read, direct":        {func(d *desk.Desk) { d.Read(n, 100, 3996) }, []int{s[0], s[1]}},
		"Read, far":           {func(d *desk.Desk) { d.Read(n, 4095, 9999) }, []int{list, s[16], s[17]}},
		"Read of a hole":      {func(d *desk.Desk) { d.Read(n, 600, 100) }, nil},
		"Write over":          {func(d *desk.Desk) { d.Write(n, 0, text(3, 512)) }, []int{0}},
		"Write, part":         {func(d *desk.Desk) { d.Write(n, 1, text(3, 512)) }, []int{0, s[0]}},
		"Write, two parts":    {func(d *desk.Desk) { d.Write(n, 1, text(3, 300)) }, []int{0, s[0], s[1]}},
		"Write to a hole":     {func(d *desk.Desk) { d.Write(n, 600, text(3, 10)) }, []int{0}},
		"Write, far":          {func(d *desk.Desk) { d.Write(n, 4096+300, text(3, 1000)) }, []int{0, list, s[17]}},
		"Write to a far hole": {func(d *desk.Desk) { d.Write(n, 30000, text(3, 1000)) }, []int{0, list}},
		"Cut":                 {func(d *desk.Desk) { d.Cut(n, 100) }, []int{0, list, s[0]}},
		"Cut at a block":      {func(d *desk.Desk) { d.Cut(n, 256) }, []int{0, list}},
		"Cut in a hole":       {func(d *desk.Desk) { d.Cut(n, 600) }, []int{0, list}},
	} {
		if got := v.wants(t, c.f); !slices.Equal(got, c.want) {
			t.Fatalf("P13: %s wants %v, not %v", what, got, c.want)
		}
	}
}

// TestRunAgain: one desk for all runs, each call in a run of its own, with no slot known at its beginning, and the super put by Save at the very end: as if all had been known, and in one run.
func TestRunAgain(t *testing.T) {
	v := dirty(256)
	v.made(t, 256, map[int][]byte{0: text(1, 300), 4096: text(2, 300)})
	r := api.Ref{Ino: 1, Serial: 1}
	var n, m api.Inode
	var other api.Ref
	calls := []func(d *desk.Desk){
		func(d *desk.Desk) { n, _ = d.Get(r) },
		func(d *desk.Desk) { other, _ = d.Make(file()) },
		func(d *desk.Desk) { m, _ = d.Get(other) },
		func(d *desk.Desk) { n = d.Write(n, 5000, text(3, 1000)) },
		func(d *desk.Desk) { m = d.Write(m, 200, text(4, 4000)) },
		func(d *desk.Desk) { d.Set(r.Ino, n); d.Set(other.Ino, m) },
		func(d *desk.Desk) { n = d.Cut(n, 4500) },
		func(d *desk.Desk) {
			s := d.Super()
			s.Orphans[other.Ino] = true
			d.SetSuper(s)
			m = d.Cut(m, 300)
		},
		func(d *desk.Desk) { d.Set(r.Ino, n); d.Set(other.Ino, m) },
		func(d *desk.Desk) { d.Make(file()) },
		func(d *desk.Desk) { d.Drop(r.Ino) },
		func(d *desk.Desk) { d.Drop(9) },
		func(d *desk.Desk) { d.Save() },
	}
	together := v.copied()
	d, x := together.desk(256)
	again(t, source{v: together}, x, func() {
		for _, f := range calls {
			f(d)
		}
	})
	together.apply(x.Changes())
	together.sound(t)

	s := source{v, map[int]bool{}}
	x = view.New(s.get)
	d = desk.New(x, 256)
	for _, f := range calls {
		clear(s.known)
		nBefore, mBefore := n, m
		again(t, s, x, func() {
			n, m = nBefore, mBefore
			f(d)
		})
		v.apply(x.Changes())
	}
	for slot := range 256 {
		sameBytes(t, "P13: calls in runs of their own", v[slot], together[slot])
	}
	if !maps.Equal(keys(v), keys(together)) {
		t.Fatal("P13: other slots were put")
	}
}

func keys(v volume) map[int]bool {
	out := map[int]bool{}
	for slot := range v {
		out[slot] = true
	}
	return out
}

// TestSetSuperStays: a super that was set in a run is the desk's in later ones, though they end at slots that aren't known.
func TestSetSuperStays(t *testing.T) {
	v := dirty(256)
	r, n := v.made(t, 256, map[int][]byte{0: text(1, 300)})
	s := source{v, map[int]bool{}}
	x := view.New(s.get)
	d := desk.New(x, 256)
	super := v.super(t)
	super.Serial, super.Used[200] = 90, true
	again(t, s, x, func() { d.SetSuper(super) })
	isPuts(t, "P13.1: SetSuper", x.Changes())
	again(t, s, x, func() { d.Get(r) })
	again(t, s, x, func() { d.Read(n, 0, 300) })
	again(t, s, x, func() { same(t, "P13.1: Super", d.Super(), super) })
	again(t, s, x, func() { d.Save() })
	isPuts(t, "P13.1: Save", x.Changes(), 0, packedSuper(t, super))
}

// TestNothingStays: of a run that ended at a slot nothing is the desk's: a Save in it, too.
func TestNothingStays(t *testing.T) {
	v := dirty(256)
	r, _ := v.made(t, 256, map[int][]byte{0: text(1, 300)})
	was := v.super(t)
	for what, f := range map[string]func(d *desk.Desk){
		"Make": func(d *desk.Desk) { d.Make(file()) },
		"Save": func(d *desk.Desk) { d.Make(file()); d.Save() },
		"Drop": func(d *desk.Desk) { d.Drop(r.Ino); d.Save() },
		"all":  func(d *desk.Desk) { d.Make(file()); d.Save(); d.Make(file()); d.Drop(1); d.Save() },
	} {
		s := source{v, map[int]bool{0: true, v.super(t).Inodes[r.Ino]: true}}
		x := view.New(s.get)
		d := desk.New(x, 256)
		for range 3 {
			if slot, ok := x.Run(func() { f(d); d.See(77) }); ok || slot != 77 {
				t.Fatalf("P12.2: %s: %d, %v", what, slot, ok)
			}
		}
		again(t, s, x, func() { same(t, "P13.1: Super behind "+what, d.Super(), was) })
		again(t, s, x, func() { f(d); d.Save() })
		with := x.Changes()
		y, z := v.desk(256)
		again(t, source{v: v}, z, func() { f(y); y.Save() })
		if !samePuts(with, z.Changes()) {
			t.Fatalf("P13: %s again: %v, not %v", what, with, z.Changes())
		}
	}
}
