package node_test

import (
	"bytes"
	"crypto/sha256"
	"encoding/binary"
	"math"
	"testing"

	"oubliette/api"
	"oubliette/node"
	"oubliette/veil"
)

const (
	top       = math.MaxUint32
	recordLen = 42
	used      = 4 * recordLen // bytes of a block ahead of those that are always 0
)

// nonce is an epoch and a sequence.
type nonce struct{ epoch, seq uint32 }

// nonces: the edges, and some of which the bytes are all unlike.
func nonces() []nonce {
	return []nonce{
		{0, 0}, {0, top}, {top, 0}, {top, top}, {1, 2}, {2, 1}, {0, 1}, {1, 0}, {256, 1}, {1, 256},
		{0x01020304, 0x05060708}, {0x05060708, 0x01020304}, {1 << 31, 0}, {0, 1 << 31},
	}
}

// run: so many bytes, no two beside each other alike.
func run(n int, step byte) []byte {
	b := make([]byte, n)
	for i := range b {
		b[i] = byte(i)*7 + byte(i>>8) + step
	}
	return b
}

// fill: so many bytes of one value.
func fill(n int, x byte) []byte { return bytes.Repeat([]byte{x}, n) }

// digest: bytes of which no two are alike.
func digest(step byte) api.Sum {
	var s api.Sum
	for i := range s {
		s[i] = byte(i) + step
	}
	return s
}

// full: a record that may be, all of whose bytes are unlike zero.
func full(k int) api.Record {
	step := uint32(k) * 0x01010101
	return api.Record{At: 0x0102 + k, Epoch: 0x0a0b0c0d + step, Seq: 0x1a1b1c1d + step, Sum: digest(byte(0x40 + 5*k))}
}

// four: four records that are all there, and unlike.
func four() [4]api.Record {
	return [4]api.Record{full(0), full(1), full(2), full(3)}
}

// records: records that may be, with the edges.
func records() []api.Record {
	return []api.Record{
		{}, {At: 1}, {At: 1024}, {At: 255}, {At: 256}, {At: 257}, {At: 1023},
		{At: 1, Epoch: 1}, {At: 1, Seq: 1}, {At: 1, Sum: api.Sum{1}}, {At: 1, Sum: api.Sum{31: 1}},
		{At: 2, Epoch: top}, {At: 2, Seq: top}, {At: 2, Sum: api.Sum(fill(32, 0xff))},
		{At: 1024, Epoch: top, Seq: top, Sum: api.Sum(fill(32, 0xff))},
		full(0), full(1), full(7),
	}
}

// badPlaces: numbers that no record that may be has as its At; the last two bytes of some are small.
func badPlaces() []int {
	return []int{
		-1, -2, -1024, -1025, -65535, -65536, -65535 + 9, math.MinInt32, math.MinInt, math.MinInt + 1,
		1025, 1026, 2048, 65535, 65536, 65537, 65536 + 1024, 1 << 24, 1<<32 + 1, 1<<32 + 1024, 1<<63 - 65535, math.MaxInt32, math.MaxInt,
	}
}

// bad: records that may not be.
func bad() []api.Record {
	var out []api.Record
	for _, at := range badPlaces() {
		r := full(0)
		r.At = at
		out = append(out, r, api.Record{At: at})
	}
	none := full(0)
	none.At = 0
	out = append(out, none)
	for _, x := range []uint32{1, 256, 1 << 16, 1 << 24, top} {
		out = append(out, api.Record{Epoch: x}, api.Record{Seq: x})
	}
	for i := range api.SumLen {
		var s api.Sum
		s[i] = 1
		out = append(out, api.Record{Sum: s})
	}
	return out
}

// wantRecord: a record's bytes, by the library.
func wantRecord(r api.Record) []byte {
	out := binary.LittleEndian.AppendUint16(nil, uint16(r.At))
	out = binary.LittleEndian.AppendUint32(out, r.Epoch)
	out = binary.LittleEndian.AppendUint32(out, r.Seq)
	return append(out, r.Sum[:]...)
}

// wantBlock: a node's block, by the library.
func wantBlock(n [4]api.Record) []byte {
	out := make([]byte, api.BlockLen)
	for k, r := range n {
		copy(out[k*recordLen:], wantRecord(r))
	}
	return out
}

// wantDigest: a hidden block's digest, by the library.
func wantDigest(at nonce, hidden []byte) api.Sum {
	out := binary.LittleEndian.AppendUint32(nil, at.epoch)
	out = binary.LittleEndian.AppendUint32(out, at.seq)
	return sha256.Sum256(append(out, hidden...))
}

// packed packs what should do.
func packed(t *testing.T, n [4]api.Record) []byte {
	t.Helper()
	b, e := node.Pack(n)
	if e != api.OK || len(b) != api.BlockLen {
		t.Fatalf("P6.1: Pack(%v): %d bytes, %v", n, len(b), e)
	}
	return b
}

// unpacks: a block's records are these.
func unpacks(t *testing.T, promise string, b []byte, want [4]api.Record) {
	t.Helper()
	if n, e := node.Unpack(b); e != api.OK || n != want {
		t.Errorf("%s: Unpack(%x): %v, %v; not %v", promise, b, n, e, want)
	}
}

// noForm: a block has no records.
func noForm(t *testing.T, b []byte) {
	t.Helper()
	if n, e := node.Unpack(b); int(e) != 210 || n != [4]api.Record{} {
		t.Errorf("P6.1: Unpack(%x): %v, %v; not ErrForm", b, n, e)
	}
}

// veils: of a key, of pads, of none, and no veil.
func veils(t *testing.T) []*veil.Veil {
	t.Helper()
	v, e := veil.New(run(32, 1))
	if e != api.OK {
		t.Fatal(e)
	}
	return []*veil.Veil{v, padded(), veil.Ideal(nil), nil}
}

// pads: for each of the nonces one, the short ones too.
func pads() []api.Pad {
	var out []api.Pad
	for i, at := range nonces() {
		n := []int{256, 300, 100, 0}[i%4]
		out = append(out, api.Pad{Epoch: at.epoch, Seq: at.seq, Bytes: run(n, byte(3*i+1))})
	}
	return out
}

// padded: a veil of pads.
func padded() *veil.Veil { return veil.Ideal(pads()) }

// plains: blocks of all kinds.
func plains() [][]byte {
	return [][]byte{fill(256, 0), fill(256, 0xff), run(256, 0), run(256, 5), wantBlock(four())}
}

// sealed seals what should do.
func sealed(t *testing.T, v *veil.Veil, at int, by nonce, plain []byte) ([]byte, api.Record) {
	t.Helper()
	hidden, r, e := node.Seal(v, at, by.epoch, by.seq, plain)
	if e != api.OK || len(hidden) != api.BlockLen {
		t.Fatalf("P6.3: Seal(at %d, %v, %d bytes): %d bytes, %v", at, by, len(plain), len(hidden), e)
	}
	return hidden, r
}

// opens: what is opened is this block.
func opens(t *testing.T, promise string, v *veil.Veil, r api.Record, hidden, want []byte) {
	t.Helper()
	if b, e := node.Open(v, r, hidden); e != api.OK || !bytes.Equal(b, want) {
		t.Errorf("%s: Open(%v): %x, %v; not %x", promise, r, b, e, want)
	}
}

// shut: nothing is opened.
func shut(t *testing.T, promise string, v *veil.Veil, r api.Record, hidden []byte) {
	t.Helper()
	if b, e := node.Open(v, r, hidden); int(e) != 5 || len(b) != 0 {
		t.Errorf("%s: Open(%v, %d bytes): %x, %v; not IO", promise, r, len(hidden), b, e)
	}
}
