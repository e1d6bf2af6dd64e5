package vault

import (
	"maps"
	"slices"

	"oubliette/api"
	"oubliette/node"
	"oubliette/path"
)

// Begin: a commit begins, if it may.
func (v *Vault) Begin() bool {
	if v.Going() || v.Changed() == 0 {
		return false
	}
	v.going = maps.Clone(v.changed)
	clear(v.changed)
	slots := slices.Sorted(maps.Keys(v.going))
	v.rest = nil
	for _, slot := range slots {
		v.rest = append(v.rest, v.place(slot))
	}
	v.rest = append(v.rest, path.Above(v.depth, slots)...)
	v.pushing = v.write
	return true
}

// Going: whether a commit goes on.
func (v *Vault) Going() bool {
	return v != nil && v.pushing != nil
}

// Push: a commit's next step. ErrState.
func (v *Vault) Push() (bool, api.Errno) {
	if !v.Going() {
		return false, api.ErrState
	}
	return v.pushing()
}

// write: the next slot or node that is to be written is; behind the last one comes the barrier.
func (v *Vault) write() (bool, api.Errno) {
	for len(v.rest) > 0 {
		at := v.rest[0]
		v.rest = v.rest[1:]
		plain := v.plain(at)
		if len(plain) != 0 {
			v.replace(at, v.seal(plain))
			return false, api.OK
		}
		v.replace(at, api.Record{})
	}
	return v.sync()
}

// plain: what the commit has at a place; no bytes, if that isn't written.
func (v *Vault) plain(at api.Spot) []byte {
	if at.Level == v.depth {
		return v.going[at.Index]
	}
	n := v.nodes[at]
	if n == [api.Fan]api.Record{} {
		return nil
	}
	// A node's records were unpacked or sealed, so that they may be.
	b, _ := node.Pack(n)
	return b
}

// seal: a block is hidden and written where nothing lies; its record.
func (v *Vault) seal(plain []byte) api.Record {
	// Nothing fails: the disk has room for two whole trees, and no more than one is taken when a commit begins.
	at, _ := v.space.Take()
	hidden, r, _ := node.Seal(v.veil, at, v.epoch, v.seq, plain)
	v.disk.Write(at, hidden)
	v.uses = append(v.uses, api.Use{Epoch: v.epoch, Seq: v.seq, Plain: plain})
	v.seq++
	return r
}

// replace: another record leads to a place; what lay there before is given back.
func (v *Vault) replace(at api.Spot, r api.Record) {
	if old := v.record(at); leads(old) {
		v.space.Give(block(old))
	}
	if at.Level == 0 {
		v.top = r
		return
	}
	above, k := up(at)
	n := v.nodes[above]
	n[k] = r
	v.nodes[above] = n
}

// sync: all that was written is to be there ahead of the root that leads to it.
func (v *Vault) sync() (bool, api.Errno) {
	v.disk.Barrier()
	v.pushing = v.finish
	return false, api.OK
}

// finish: the anchor holds the new root, and what lay there before is free. ErrState.
func (v *Vault) finish() (bool, api.Errno) {
	if v.anchor.Set(api.Root{Epoch: v.epoch + 1, Top: v.top}) != api.OK {
		return false, api.ErrState
	}
	v.epoch, v.seq = v.epoch+1, 0
	v.space.Settle()
	v.pushing, v.going, v.rest = nil, nil, nil
	return true, api.OK
}
