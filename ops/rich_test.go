package ops_test

import (
	"fmt"
	"testing"

	"oubliette/api"
)

// rich is a volume with something of each kind: what is there to be named, and what is in the way of an operation. Nearly all belongs to the user 5 of the group 7.
type rich struct {
	*pair
	mine, other api.Ref // directories, with a file a and a directory with entries h; other has an empty directory e, too
	inside      api.Ref // mine's h
	full        api.Ref // a directory with MaxEntries names, a among them
	file, more  api.Ref // files; more has names up to MaxLinks
	big         api.Ref // a file with a list and holes, of the user 0
	locked      api.Ref // a file that its owner can't write
	symbolic    api.Ref // a symbolic link
	stuffing    api.Ref // a file to be written till there is no room
	orphans     [4]api.Ref
}

// newRich: such a volume.
func newRich(t testing.TB, slots int) *rich {
	x := &rich{pair: begin(t, slots)}
	x.mine, x.other = x.mkdir(rootRef, "mine"), x.mkdir(rootRef, "other")
	x.inside = x.mkdir(x.mine, "h")
	x.mkdir(x.inside, "e")
	x.create(x.mkdir(x.other, "h"), "f")
	x.mkdir(x.other, "e")
	x.file, x.more = x.create(x.mine, "a"), x.create(x.other, "a")
	x.write(x.file, 300, "some text")
	x.full = x.mkdir(rootRef, "full")
	x.fill(x.full, x.more)
	x.big = x.create(rootRef, "big")
	x.write(x.big, 5, "ahead")
	x.write(x.big, 15*256+250, "on both sides")
	x.write(x.big, 40*256, "behind")
	x.locked = x.create(x.mine, "locked")
	x.symbolic = x.symlink(x.mine, "l", "a")
	x.stuffing = x.create(rootRef, "stuffing")
	x.loseAll()
	for _, n := range []api.Ref{x.mine, x.other, x.inside, x.full, x.file, x.more, x.symbolic} {
		x.own(n, 0o700)
	}
	x.own(x.locked, 0o444)
	return x
}

// fill: a directory has as many names as may be, and a file, too.
func (x *rich) fill(in, n api.Ref) {
	x.t.Helper()
	other := x.create(in, "a")
	for k := 1; k < api.MaxEntries; k++ {
		switch {
		case k < api.MaxLinks:
			x.link(in, numbered(k), n)
		case k%api.MaxLinks == 0:
			other = x.create(in, numbered(k))
		default:
			x.link(in, numbered(k), other)
		}
	}
}

// loseAll: orphans: a file, a directory, a symbolic link, and a file without bytes.
func (x *rich) loseAll() {
	x.t.Helper()
	x.orphans = [4]api.Ref{x.create(rootRef, "of"), x.mkdir(rootRef, "od"), x.symlink(rootRef, "ol", "to"), x.create(rootRef, "oe")}
	x.write(x.orphans[0], 17*256, "held")
	for k, name := range []string{"of", "od", "ol", "oe"} {
		x.own(x.orphans[k], 0o700)
		flags := 0
		if k == 1 {
			flags = 512
		}
		x.unlink(rootRef, name, flags, x.orphans[k])
	}
}

// crowded: there are as many nodes as may be.
func (x *rich) crowded() *rich {
	x.t.Helper()
	for d := 0; ; d++ {
		in := x.mkdir(rootRef, fmt.Sprint("crowd", d))
		for k := range api.MaxEntries {
			if len(x.f.Image().Nodes) == api.MaxInodes {
				return x
			}
			x.create(in, numbered(k))
		}
	}
}

// tight: so many slots are free.
func (x *rich) tight(free int) *rich {
	x.t.Helper()
	x.stuff(x.stuffing, free)
	return x
}

// again: the same volume as another one.
func (x *rich) again(t testing.TB) *rich {
	y := *x
	y.pair = x.copied(t)
	return &y
}
