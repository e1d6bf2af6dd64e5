package dir

import (
	"bytes"
	"slices"

	"oubliette/api"
	"oubliette/wire"
)

// Bytes of a leaf's count, and of an entry's fields, in their order there; its name as a text is behind them.
const (
	countSize  = 1
	inoSize    = 1
	kindSize   = 1
	serialSize = 8
	cookieSize = 4
)

// entryMayBe: whether an entry may be in a list, whatever the others are.
func entryMayBe(e api.Entry) bool {
	return wire.Name(e.Name) == api.OK &&
		e.Kind >= api.File && e.Kind <= api.Symlink &&
		e.Ref.Ino >= 1 && e.Ref.Ino <= api.MaxInodes &&
		e.Ref.Serial != 0 &&
		e.Cookie != 0
}

// rise: whether each name is behind the one ahead of it.
func rise(l []api.Entry) bool {
	for k := 1; k < len(l); k++ {
		if !wire.Less(l[k-1].Name, l[k].Name) {
			return false
		}
	}
	return true
}

// apart: whether no two cookies are alike.
func apart(l []api.Entry) bool {
	l = byCookies(l)
	for k := 1; k < len(l); k++ {
		if l[k-1].Cookie == l[k].Cookie {
			return false
		}
	}
	return true
}

// mayBe: whether a list may be.
func mayBe(l []api.Entry) bool {
	if len(l) > api.MaxEntries {
		return false
	}
	for _, e := range l {
		if !entryMayBe(e) {
			return false
		}
	}
	return rise(l) && apart(l)
}

// number: a number that fits its size, behind bytes.
func number(b []byte, size int, v uint64) []byte {
	out, _ := wire.Put(b, size, v)
	return out
}

// packed: the bytes of an entry that may be.
func packed(e api.Entry) []byte {
	b := number(nil, inoSize, uint64(e.Ref.Ino))
	b = number(b, kindSize, uint64(e.Kind))
	b = number(b, serialSize, e.Ref.Serial)
	b = number(b, cookieSize, uint64(e.Cookie))
	b, _ = wire.Text(b, e.Name)
	return b
}

// leaf: a leaf with as many of the entries, from the first one on, as it has room for, and how many these are.
func leaf(l []api.Entry) ([]byte, int) {
	var entries []byte
	count := 0
	for _, e := range l {
		b := packed(e)
		if countSize+len(entries)+len(b) > api.BlockLen {
			break
		}
		entries = append(entries, b...)
		count++
	}
	out := make([]byte, api.BlockLen)
	copy(out, number(nil, countSize, uint64(count)))
	copy(out[countSize:], entries)
	return out, count
}

// Leaves: a list's leaves. ErrArg.
func Leaves(l []api.Entry) ([][]byte, api.Errno) {
	if !mayBe(l) {
		return nil, api.ErrArg
	}
	var leaves [][]byte
	for len(l) > 0 {
		b, count := leaf(l)
		leaves = append(leaves, b)
		l = l[count:]
	}
	return leaves, api.OK
}

// read: the entries that a block tells, may they be or not.
func read(block []byte) []api.Entry {
	c := wire.New(block)
	var l []api.Entry
	for range c.Num(countSize) {
		var e api.Entry
		e.Ref.Ino = int(c.Num(inoSize))
		e.Kind = int(c.Num(kindSize))
		e.Ref.Serial = c.Num(serialSize)
		e.Cookie = uint32(c.Num(cookieSize))
		e.Name = c.Text()
		l = append(l, e)
	}
	return l
}

// Parse: the list that leaves are. IO.
func Parse(blocks [][]byte) ([]api.Entry, api.Errno) {
	// Each leaf has an entry at least.
	if len(blocks) > api.MaxEntries {
		return nil, api.IO
	}
	var l []api.Entry
	for _, b := range blocks {
		l = append(l, read(b)...)
	}
	// Made again, so that the list, how its entries lie in leaves, and the bytes behind them are held to what Leaves answers.
	leaves, e := Leaves(l)
	if e != api.OK || !slices.EqualFunc(leaves, blocks, bytes.Equal) {
		return nil, api.IO
	}
	return l, api.OK
}
