package node_test

import (
	"bytes"
	libaes "crypto/aes"
	"encoding/binary"
	"math"
	"testing"

	"oubliette/api"
	"oubliette/node"
	"oubliette/veil"
)

// places: the edges of a block's number, and some between.
func places() []int { return []int{0, 1, 254, 255, 256, 511, 1022, 1023} }

// keyMask: 256 bytes of the mask of layer 4 under a key, by the library's AES.
func keyMask(t *testing.T, key []byte, at nonce) []byte {
	t.Helper()
	lib, err := libaes.NewCipher(key)
	if err != nil {
		t.Fatal(err)
	}
	out := make([]byte, api.BlockLen)
	for i := range api.BlockLen / 16 {
		block := out[16*i : 16*i+16]
		binary.LittleEndian.PutUint32(block[0:], at.epoch)
		binary.LittleEndian.PutUint32(block[4:], at.seq)
		binary.LittleEndian.PutUint64(block[8:], uint64(i))
		lib.Encrypt(block, block)
	}
	return out
}

// padMask: 256 bytes of the mask of layer 4 under a table.
func padMask(table []api.Pad, at nonce) []byte {
	out := make([]byte, api.BlockLen)
	for _, p := range table {
		if p.Epoch == at.epoch && p.Seq == at.seq {
			copy(out, p.Bytes)
			break
		}
	}
	return out
}

// xored: two blocks, byte by byte.
func xored(a, b []byte) []byte {
	out := make([]byte, len(a))
	for i := range a {
		out[i] = a[i] ^ b[i]
	}
	return out
}

// seals: what is sealed there under that veil has these hidden bytes, and is opened as it was.
func seals(t *testing.T, v *veil.Veil, at int, by nonce, plain, want []byte) {
	t.Helper()
	hidden, r := sealed(t, v, at, by, plain)
	if !bytes.Equal(hidden, want) {
		t.Errorf("P6.3: Seal(at %d, %v, %x): %x, not %x", at, by, plain, hidden, want)
	}
	if x := (api.Record{At: at + 1, Epoch: by.epoch, Seq: by.seq, Sum: wantDigest(by, want)}); r != x {
		t.Errorf("P6.3: Seal(at %d, %v): %v, not %v", at, by, r, x)
	}
	opens(t, "P6.4, P6.5", v, r, hidden, plain)
}

func TestSealUnderAKey(t *testing.T) {
	key := run(32, 1)
	v := veils(t)[0]
	for _, by := range nonces() {
		mask := keyMask(t, key, by)
		for i, plain := range plains() {
			seals(t, v, places()[i], by, plain, xored(plain, mask))
		}
	}
	for _, at := range places() {
		seals(t, v, at, nonce{1, 2}, run(256, 3), xored(run(256, 3), keyMask(t, key, nonce{1, 2})))
	}
}

func TestSealUnderPads(t *testing.T) {
	v := padded()
	for _, by := range append(nonces(), nonce{9, 9}) {
		mask := padMask(pads(), by)
		for i, plain := range plains() {
			seals(t, v, places()[7-i], by, plain, xored(plain, mask))
		}
	}
	for _, at := range places() {
		seals(t, v, at, nonce{0, top}, run(256, 3), xored(run(256, 3), padMask(pads(), nonce{0, top})))
	}
}

// TestSealUnderNone: neither a veil without pads nor no veil hides anything.
func TestSealUnderNone(t *testing.T) {
	for _, v := range []*veil.Veil{veil.Ideal(nil), nil} {
		for _, by := range nonces() {
			for i, plain := range plains() {
				seals(t, v, places()[i+3], by, plain, plain)
			}
		}
	}
}

func TestSealAtEachBlock(t *testing.T) {
	v := padded()
	for at := range api.MaxBlocks {
		_, r := sealed(t, v, at, nonce{1, 2}, run(256, 1))
		if r.At != at+1 {
			t.Errorf("P6.3: Seal at %d: At %d", at, r.At)
		}
	}
}

// refused: nothing is sealed.
func refused(t *testing.T, v *veil.Veil, at int, plain []byte) {
	t.Helper()
	for _, by := range []nonce{{0, 0}, {1, 2}, {top, top}} {
		hidden, r, e := node.Seal(v, at, by.epoch, by.seq, plain)
		if int(e) != 201 || len(hidden) != 0 || r != (api.Record{}) {
			t.Errorf("P6.3: Seal(at %d, %v, %d bytes): %d bytes, %v, %v; not ErrArg", at, by, len(plain), len(hidden), r, e)
		}
	}
}

func TestSealThatMayNotBe(t *testing.T) {
	lengths := []int{0, 1, 16, 255, 257, 512, 4096, 4097, 1 << 16}
	for _, v := range veils(t) {
		for _, at := range []int{-1, -2, -1024, math.MinInt, 1024, 1025, 65536, 1 << 32, math.MaxInt - 1, math.MaxInt} {
			refused(t, v, at, run(256, 1))
			for _, n := range lengths {
				refused(t, v, at, run(n, 1))
			}
		}
		for _, at := range places() {
			refused(t, v, at, nil)
			for _, n := range lengths {
				refused(t, v, at, run(n, 1))
				refused(t, v, at, run(n+300, 1)[:n])
			}
		}
	}
}

// TestRoomIsNoBlock: of 256 bytes with room for more all is well.
func TestRoomIsNoBlock(t *testing.T) {
	seals(t, nil, 5, nonce{1, 2}, run(300, 1)[:256], run(256, 1))
}

// TestOpenByNoRecord: a record that may not be, or is none, is IO, though the digest is right.
func TestOpenByNoRecord(t *testing.T) {
	for _, v := range veils(t) {
		hidden, r := sealed(t, v, 4, nonce{1, 2}, run(256, 1))
		for _, at := range append(badPlaces(), 0) {
			other := r
			other.At = at
			shut(t, "P6.4", v, other, hidden)
		}
		for _, other := range append(bad(), api.Record{}) {
			other.Sum = wantDigest(nonce{other.Epoch, other.Seq}, hidden)
			shut(t, "P6.4", v, other, hidden)
			shut(t, "P6.4", v, other, nil)
		}
		shut(t, "P6.4", v, api.Record{}, nil)
		shut(t, "P6.4", v, api.Record{}, fill(256, 0))
		opens(t, "P6.4", v, r, hidden, run(256, 1))
	}
}

// TestOpenOfAnotherLength: IO, though the digest is that of the bytes.
func TestOpenOfAnotherLength(t *testing.T) {
	for _, v := range veils(t) {
		hidden, r := sealed(t, v, 4, nonce{1, 2}, run(256, 1))
		long := append(bytes.Clone(hidden), run(4096, 3)...)
		for _, n := range []int{0, 1, 128, 255, 257, 512, 4096, 4352} {
			shut(t, "P6.4", v, r, long[:n])
			other := r
			other.Sum = wantDigest(nonce{1, 2}, long[:n])
			shut(t, "P6.4", v, other, long[:n])
			shut(t, "P6.4", v, other, hidden)
		}
		shut(t, "P6.4", v, r, nil)
		opens(t, "P6.4", v, r, long[:256], run(256, 1))
	}
}

// TestOpenOfOtherBytes: each bit of the hidden bytes counts.
func TestOpenOfOtherBytes(t *testing.T) {
	for _, v := range veils(t) {
		hidden, r := sealed(t, v, 4, nonce{1, 2}, run(256, 1))
		for i := range hidden {
			for _, x := range []byte{1, 0x10, 0x80, 0xff} {
				b := bytes.Clone(hidden)
				b[i] ^= x
				shut(t, "P6.4, P6.5", v, r, b)
			}
		}
		shut(t, "P6.4, P6.5", v, r, fill(256, 0))
		shut(t, "P6.4, P6.5", v, r, append(bytes.Clone(hidden[1:]), hidden[0]))
		opens(t, "P6.4", v, r, hidden, run(256, 1))
	}
}

// TestOpenByAnotherRecord: each bit of the epoch, of the sequence and of the digest counts; At isn't digested.
func TestOpenByAnotherRecord(t *testing.T) {
	for _, v := range veils(t) {
		plain := run(256, 1)
		hidden, r := sealed(t, v, 4, nonce{0x01020304, 0x05060708}, plain)
		for bit := range 32 {
			epoch, seq := r, r
			epoch.Epoch ^= 1 << bit
			seq.Seq ^= 1 << bit
			shut(t, "P6.4", v, epoch, hidden)
			shut(t, "P6.4", v, seq, hidden)
		}
		turned := r
		turned.Epoch, turned.Seq = r.Seq, r.Epoch
		shut(t, "P6.4", v, turned, hidden)
		for bit := range 8 * api.SumLen {
			sum := r
			sum.Sum[bit/8] ^= 1 << (bit % 8)
			shut(t, "P6.4", v, sum, hidden)
		}
		for _, at := range []int{1, 2, 6, 1023, 1024} {
			elsewhere := r
			elsewhere.At = at
			opens(t, "P6.4", v, elsewhere, hidden, plain)
		}
	}
}

// TestOpenUnderAnotherVeil: what was hidden is digested, so that it is opened, as what that veil makes of it.
func TestOpenUnderAnotherVeil(t *testing.T) {
	all := veils(t)
	for i, v := range all {
		hidden, r := sealed(t, v, 4, nonce{1, 2}, run(256, 1))
		for j, w := range all {
			opens(t, "P6.4", w, r, hidden, w.Hide(1, 2, hidden))
			if b, _ := node.Open(w, r, hidden); i < 2 && i != j && bytes.Equal(b, run(256, 1)) {
				t.Errorf("P6.4: veil %d opened what veil %d hid", j, i)
			}
		}
	}
}

// TestOnlyWhatWasSealed: of many blocks each one's record opens it alone.
func TestOnlyWhatWasSealed(t *testing.T) {
	for _, v := range veils(t) {
		var blocks, hidden [][]byte
		var by []api.Record
		for i, n := range nonces() {
			plain := run(256, byte(9*i))
			b, r := sealed(t, v, i, n, plain)
			blocks, hidden, by = append(blocks, plain), append(hidden, b), append(by, r)
		}
		for i, r := range by {
			for j, b := range hidden {
				if i == j {
					opens(t, "P6.5", v, r, b, blocks[i])
				} else {
					shut(t, "P6.5", v, r, b)
				}
			}
		}
	}
}

// TestNodesSealed: a node's block is hidden, opened and unpacked as any other.
func TestNodesSealed(t *testing.T) {
	for _, v := range veils(t) {
		_, leaf := sealed(t, v, 7, nonce{3, 0}, run(256, 1))
		n := [4]api.Record{2: leaf}
		hidden, r := sealed(t, v, 8, nonce{3, 1}, packed(t, n))
		b, e := node.Open(v, r, hidden)
		if e != api.OK {
			t.Fatalf("P6.4: %v", e)
		}
		unpacks(t, "P6.5", b, n)
	}
}

// TestArgumentsStay: neither what is handed in nor its spare room is changed.
func TestArgumentsStay(t *testing.T) {
	for _, v := range veils(t) {
		room := run(320, 1)
		hidden, r := sealed(t, v, 4, nonce{1, 2}, room[:256])
		if !bytes.Equal(room, run(320, 1)) {
			t.Errorf("P6.3: what was handed in is changed: %x", room)
		}
		back := append(bytes.Clone(hidden), run(64, 2)...)
		was := bytes.Clone(back)
		opens(t, "P6.4", v, r, back[:256], run(256, 1))
		back[0] ^= 1
		shut(t, "P6.4", v, r, back[:256])
		back[0] ^= 1
		if !bytes.Equal(back, was) {
			t.Errorf("P6.4: what was handed in is changed: %x", back)
		}
	}
}

// TestNothingIsKept: what is written over behind a call changes no answer, neither one told nor one to come.
func TestNothingIsKept(t *testing.T) {
	for _, v := range veils(t) {
		plain := run(256, 1)
		hidden, r := sealed(t, v, 4, nonce{1, 2}, plain)
		was := bytes.Clone(hidden)
		copy(plain, fill(256, 0xaa))
		if !bytes.Equal(hidden, was) {
			t.Errorf("P6.3: the hidden bytes changed with the plain ones: %x", hidden)
		}
		b, e := node.Open(v, r, hidden)
		copy(hidden, fill(256, 0xbb))
		if e != api.OK || !bytes.Equal(b, run(256, 1)) {
			t.Errorf("P6.4: the plain bytes changed with the hidden ones: %x, %v", b, e)
		}
		copy(b, fill(256, 0xcc))
		opens(t, "P6.4", v, r, was, run(256, 1))
		shut(t, "P6.4", v, r, hidden)
		again, s := sealed(t, v, 4, nonce{1, 2}, run(256, 1))
		if !bytes.Equal(again, was) || s != r {
			t.Errorf("P6.3: sealed again: %x, %v", again, s)
		}
	}
}
