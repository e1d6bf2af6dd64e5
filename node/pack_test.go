package node_test

import (
	"bytes"
	"math/rand"
	"slices"
	"testing"

	"oubliette/api"
	"oubliette/node"
)

func TestExamples(t *testing.T) {
	if b := packed(t, [4]api.Record{}); !bytes.Equal(b, make([]byte, 256)) {
		t.Errorf("P6.1: Pack of no records: %x", b)
	}
	noForm(t, make([]byte, 255))
	shut(t, "P6.4", nil, api.Record{}, make([]byte, 256))
}

// TestBytesOfARecord: each number's bytes and the digest's by hand, in each of the four places.
func TestBytesOfARecord(t *testing.T) {
	r := api.Record{At: 0x0304, Epoch: 0x11223344, Seq: 0x55667788, Sum: digest(0x90)}
	want := []byte{
		0x04, 0x03, 0x44, 0x33, 0x22, 0x11, 0x88, 0x77, 0x66, 0x55,
		0x90, 0x91, 0x92, 0x93, 0x94, 0x95, 0x96, 0x97, 0x98, 0x99, 0x9a, 0x9b, 0x9c, 0x9d, 0x9e, 0x9f,
		0xa0, 0xa1, 0xa2, 0xa3, 0xa4, 0xa5, 0xa6, 0xa7, 0xa8, 0xa9, 0xaa, 0xab, 0xac, 0xad, 0xae, 0xaf,
	}
	for k, from := range []int{0, 42, 84, 126} {
		var n [4]api.Record
		n[k] = r
		block := make([]byte, 256)
		copy(block[from:], want)
		if b := packed(t, n); !bytes.Equal(b, block) {
			t.Errorf("P6.1: Pack of one record, the %d. one: %x, not %x", k, b, block)
		}
		unpacks(t, "P6.1", block, n)
	}
}

// TestPlacesOfRecords: each choice of the four places, with unlike records.
func TestPlacesOfRecords(t *testing.T) {
	for choice := range 16 {
		n := four()
		for k := range n {
			if choice>>k&1 == 0 {
				n[k] = api.Record{}
			}
		}
		b := packed(t, n)
		if !bytes.Equal(b, wantBlock(n)) {
			t.Errorf("P6.1: Pack(%v): %x, not %x", n, b, wantBlock(n))
		}
		unpacks(t, "P6.1", b, n)
	}
}

// TestEdgesOfRecords: each pair of edges in each two places.
func TestEdgesOfRecords(t *testing.T) {
	all := records()
	for i, r := range all {
		for j, s := range all {
			for k := range 4 {
				n := four()
				n[k], n[(k+1+j%3)%4] = r, s
				b := packed(t, n)
				if !bytes.Equal(b, wantBlock(n)) {
					t.Errorf("P6.1: records %d and %d, place %d: %x, not %x", i, j, k, b, wantBlock(n))
				}
				unpacks(t, "P6.1", b, n)
			}
		}
	}
}

// TestBytesBehindTheFourth: 88 bytes 0 even where all others are ff or nearly.
func TestBytesBehindTheFourth(t *testing.T) {
	r := api.Record{At: 1023, Epoch: top, Seq: top, Sum: api.Sum(fill(32, 0xff))}
	b := packed(t, [4]api.Record{r, r, r, r})
	if !bytes.Equal(b[used:], make([]byte, 256-used)) {
		t.Errorf("P6.1: behind the fourth record: %x", b[used:])
	}
	for k := range 4 {
		if at := k * recordLen; b[at] != 0xff || b[at+1] != 3 || !bytes.Equal(b[at+2:at+recordLen], fill(40, 0xff)) {
			t.Errorf("P6.1: the %d. record: %x", k, b[at:at+recordLen])
		}
	}
}

// differ: where two blocks differ.
func differ(a, b []byte) []int {
	var out []int
	for i := range a {
		if a[i] != b[i] {
			out = append(out, i)
		}
	}
	return out
}

// TestOnePartChanged: each part of a record tells its own bytes of the block alone.
func TestOnePartChanged(t *testing.T) {
	was := packed(t, four())
	parts := []struct {
		from, to int
		change   func(r *api.Record)
	}{
		{0, 2, func(r *api.Record) { r.At = 0x0201 + r.At&1 }},
		{2, 6, func(r *api.Record) { r.Epoch = ^r.Epoch }},
		{6, 10, func(r *api.Record) { r.Seq = ^r.Seq }},
		{10, 42, func(r *api.Record) {
			for i := range r.Sum {
				r.Sum[i] = ^r.Sum[i]
			}
		}},
	}
	for k := range 4 {
		for _, p := range parts {
			n := four()
			p.change(&n[k])
			var want []int
			for i := p.from; i < p.to; i++ {
				want = append(want, k*recordLen+i)
			}
			if got := differ(was, packed(t, n)); !slices.Equal(got, want) {
				t.Errorf("P6.1: record %d changed changes bytes %v, not %v", k, got, want)
			}
		}
		for i := range api.SumLen {
			n := four()
			n[k].Sum[i] ^= 0x80
			if got := differ(was, packed(t, n)); !slices.Equal(got, []int{k*recordLen + 10 + i}) {
				t.Errorf("P6.1: digest byte %d of record %d tells bytes %v", i, k, got)
			}
		}
	}
}

// TestRecordsThatMayNotBe: ErrArg and no block, wherever it stands and whatever stands beside it.
func TestRecordsThatMayNotBe(t *testing.T) {
	for _, r := range bad() {
		for k := range 4 {
			for _, n := range [][4]api.Record{{}, four(), {r, r, r, r}} {
				n[k] = r
				if b, e := node.Pack(n); int(e) != 201 || len(b) != 0 {
					t.Errorf("P6.1: Pack(%v), place %d: %x, %v; not ErrArg", n, k, b, e)
				}
			}
		}
	}
}

// TestEachPlaceOfABlock: of all numbers of two bytes Unpack takes 1 to 1024, and 0 where all else is zero.
func TestEachPlaceOfABlock(t *testing.T) {
	for k := range 4 {
		n := four()
		b := wantBlock(n)
		empty := make([]byte, 256)
		for at := range 1 << 16 {
			b[k*recordLen], b[k*recordLen+1] = byte(at), byte(at>>8)
			empty[k*recordLen], empty[k*recordLen+1] = byte(at), byte(at>>8)
			n[k].At = at
			alone := [4]api.Record{}
			alone[k].At = at
			if at >= 1 && at <= 1024 {
				unpacks(t, "P6.1", b, n)
				unpacks(t, "P6.1", empty, alone)
				continue
			}
			noForm(t, b)
			if at > 0 {
				noForm(t, empty)
			}
		}
	}
}

// TestNoRecordWithBytes: where At is 0 each other byte that isn't 0 is ErrForm.
func TestNoRecordWithBytes(t *testing.T) {
	for k := range 4 {
		for i := 2; i < recordLen; i++ {
			for _, x := range []byte{1, 0x80, 0xff} {
				n := four()
				n[k] = api.Record{}
				for _, b := range [][]byte{make([]byte, 256), wantBlock(n)} {
					b[k*recordLen+i] = x
					noForm(t, b)
				}
			}
		}
	}
}

func TestBytesBehindTheRecords(t *testing.T) {
	for i := used; i < 256; i++ {
		for _, x := range []byte{1, 0x80, 0xff} {
			for _, b := range [][]byte{make([]byte, 256), wantBlock(four())} {
				b[i] = x
				noForm(t, b)
			}
		}
	}
}

// TestBlocksOfAnotherLength: a block's beginnings, and what has more bytes, room or none.
func TestBlocksOfAnotherLength(t *testing.T) {
	noForm(t, nil)
	noForm(t, []byte{})
	for _, whole := range [][]byte{make([]byte, 1024), append(wantBlock(four()), make([]byte, 768)...)} {
		for n := range 600 {
			if n != 256 {
				noForm(t, whole[:n])
				noForm(t, bytes.Clone(whole[:n]))
			}
		}
		noForm(t, whole)
	}
	unpacks(t, "P6.1: with room for more", make([]byte, 1024)[:256], [4]api.Record{})
	unpacks(t, "P6.1: with room for more", append(wantBlock(four()), 1)[:256], four())
	noForm(t, run(1<<16, 0))
}

// random: a node whose records and their parts are there or not, as it comes.
func random(r *rand.Rand) [4]api.Record {
	var n [4]api.Record
	for k := range n {
		if r.Intn(4) == 0 {
			continue
		}
		n[k] = api.Record{At: 1 + r.Intn(1024), Epoch: r.Uint32() >> r.Intn(33), Seq: r.Uint32() >> r.Intn(33)}
		r.Read(n[k].Sum[:r.Intn(33)])
	}
	return n
}

// TestOneBlockOneNode: unlike nodes have unlike blocks, and each of both leads to the other.
func TestOneBlockOneNode(t *testing.T) {
	r := rand.New(rand.NewSource(6))
	met := map[[256]byte][4]api.Record{}
	for range 3000 {
		n := random(r)
		b := packed(t, n)
		if !bytes.Equal(b, wantBlock(n)) {
			t.Errorf("P6.1: Pack(%v): %x, not %x", n, b, wantBlock(n))
		}
		unpacks(t, "P6.5", b, n)
		if other, ok := met[[256]byte(b)]; ok && other != n {
			t.Errorf("P6.5: %v and %v have one block", n, other)
		}
		met[[256]byte(b)] = n
	}
}

// TestEachBitOfABlock: what is unpacked of changed bytes is packed to just these, or it is ErrForm.
func TestEachBitOfABlock(t *testing.T) {
	r := rand.New(rand.NewSource(65))
	nodes := [][4]api.Record{{}, four(), {0: full(3)}, {3: full(2)}, random(r), random(r), random(r)}
	for _, n := range nodes {
		was := packed(t, n)
		for bit := range 8 * 256 {
			b := bytes.Clone(was)
			b[bit/8] ^= 1 << (bit % 8)
			m, e := node.Unpack(b)
			if e != api.OK {
				noForm(t, b)
				continue
			}
			if m == n {
				t.Errorf("P6.5: two blocks of one node: %x and %x", was, b)
			}
			if again := packed(t, m); !bytes.Equal(again, b) {
				t.Errorf("P6.5: %x is packed again to %x", b, again)
			}
		}
	}
}

// TestBlocksStay: what is unpacked isn't changed, its spare room neither, nor is it kept.
func TestBlocksStay(t *testing.T) {
	room := append(wantBlock(four()), fill(64, 0xcc)...)
	was := bytes.Clone(room)
	n, e := node.Unpack(room[:256])
	if e != api.OK || !bytes.Equal(room, was) {
		t.Errorf("P6.1: Unpack: %v, and what was handed in is %x", e, room)
	}
	copy(room, fill(256, 0xaa))
	if n != four() {
		t.Errorf("P6.1: the records changed with the block: %v", n)
	}
	unpacks(t, "P6.1", was[:256], four())
}

// TestBlocksAreNewMemory: a block that was told, written over, is told again as it was.
func TestBlocksAreNewMemory(t *testing.T) {
	for _, n := range [][4]api.Record{{}, four()} {
		keep := n
		one, other := packed(t, n), packed(t, n)
		clear(one[:cap(one)])
		copy(one, fill(256, 0xaa))
		if n != keep || !bytes.Equal(other, wantBlock(n)) || !bytes.Equal(packed(t, n), wantBlock(n)) {
			t.Errorf("P6.1: what was told changed an answer of Pack(%v): %x", n, other)
		}
	}
}
