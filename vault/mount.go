package vault

import (
	"oubliette/api"
	"oubliette/node"
)

// Mount: a step of the mounting. IO.
func (v *Vault) Mount() (bool, api.Errno) {
	if v == nil {
		return false, api.IO
	}
	return v.mounting()
}

// enter: the anchor is set to an epoch that is this vault's alone, so that no nonce of an elder one comes again.
func (v *Vault) enter() (bool, api.Errno) {
	root := v.anchor.Get()
	root.Epoch++
	if v.anchor.Set(root) != api.OK {
		return v.spoil()
	}
	v.epoch, v.top = root.Epoch, root.Top
	if !v.mark(v.top) {
		return v.spoil()
	}
	return v.onward()
}

// mark: what the records lead to is taken in the space, if it may be.
func (v *Vault) mark(records ...api.Record) bool {
	for _, r := range records {
		if leads(r) && v.space.Mark(block(r)) != api.OK {
			return false
		}
	}
	return true
}

// onward: the next node that has a block is to be read; behind the last one the vault is ready.
func (v *Vault) onward() (bool, api.Errno) {
	for len(v.unread) > 0 && !leads(v.record(v.unread[0])) {
		v.unread = v.unread[1:]
	}
	if len(v.unread) == 0 {
		return v.rise()
	}
	v.mounting = v.load
	return false, api.OK
}

// load: the next node is read, and what its records lead to is taken.
func (v *Vault) load() (bool, api.Errno) {
	at := v.unread[0]
	b, e := v.open(v.record(at), v.disk.Read)
	if e != api.OK {
		return v.spoil()
	}
	n, e := node.Unpack(b)
	if e != api.OK || !v.mark(n[:]...) {
		return v.spoil()
	}
	v.nodes[at] = n
	v.unread = v.unread[1:]
	return v.onward()
}

// rise: the vault is ready, and stays so.
func (v *Vault) rise() (bool, api.Errno) {
	v.ready = true
	v.mounting = v.rise
	return true, api.OK
}

// spoil: the vault is bad, and stays so.
func (v *Vault) spoil() (bool, api.Errno) {
	v.mounting = v.spoil
	return false, api.IO
}
