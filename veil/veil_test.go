package veil_test

import (
	"bytes"
	libaes "crypto/aes"
	"encoding/binary"
	"math"
	"math/rand"
	"testing"

	"oubliette/aes"
	"oubliette/api"
	"oubliette/veil"
)

const top = math.MaxUint32

// nonce is an epoch and a sequence.
type nonce struct{ epoch, seq uint32 }

// nonces: the edges, and some between.
func nonces() []nonce {
	return []nonce{
		{0, 0}, {0, top}, {top, 0}, {top, top}, {1, 2}, {2, 1}, {0, 1}, {1, 0},
		{0x01020304, 0x05060708}, {0x05060708, 0x01020304}, {256, 1}, {1, 256},
	}
}

// lengths: the edges, and some between.
func lengths() []int {
	return []int{0, 1, 2, 15, 16, 17, 31, 32, 33, 255, 256, 257, 4079, 4080, 4081, 4095, 4096}
}

// run: so many bytes, each greater by step than the one ahead.
func run(n int, step byte) []byte {
	b := make([]byte, n)
	for i := range b {
		b[i] = byte(i)*step + byte(i>>8)
	}
	return b
}

// fill: so many bytes of one value.
func fill(n int, x byte) []byte { return bytes.Repeat([]byte{x}, n) }

// xored: two texts of one length, byte by byte.
func xored(a, b []byte) []byte {
	out := make([]byte, len(a))
	for i := range a {
		out[i] = a[i] ^ b[i]
	}
	return out
}

// keyed makes a veil of a key that should do.
func keyed(t *testing.T, key []byte) *veil.Veil {
	t.Helper()
	v, e := veil.New(key)
	if e != api.OK || v == nil {
		t.Fatalf("P4.1: New(%x): %v, %v", key, v, e)
	}
	return v
}

// ideal makes a veil of a table.
func ideal(t *testing.T, pads ...api.Pad) *veil.Veil {
	t.Helper()
	v := veil.Ideal(pads)
	if v == nil {
		t.Fatalf("P4.1: Ideal(%v): none", pads)
	}
	return v
}

// wantKeyed: a key's mask by the library's AES.
func wantKeyed(t *testing.T, key []byte, at nonce, n int) []byte {
	t.Helper()
	lib, err := libaes.NewCipher(key)
	if err != nil {
		t.Fatal(err)
	}
	var out []byte
	for counter := uint64(0); len(out) < n; counter++ {
		var block [16]byte
		binary.LittleEndian.PutUint32(block[0:], at.epoch)
		binary.LittleEndian.PutUint32(block[4:], at.seq)
		binary.LittleEndian.PutUint64(block[8:], counter)
		lib.Encrypt(block[:], block[:])
		out = append(out, block[:]...)
	}
	return out[:n]
}

// wantIdeal: a table's mask.
func wantIdeal(pads []api.Pad, at nonce, n int) []byte {
	out := make([]byte, n)
	for _, p := range pads {
		if p.Epoch == at.epoch && p.Seq == at.seq {
			copy(out, p.Bytes)
			break
		}
	}
	return out
}

// masked asks for one mask and holds it against another one.
func masked(t *testing.T, v *veil.Veil, at nonce, want []byte) {
	t.Helper()
	if got := v.Mask(at.epoch, at.seq, len(want)); !bytes.Equal(got, want) {
		t.Errorf("P4.2: Mask(%d, %d, %d): %x, not %x", at.epoch, at.seq, len(want), got, want)
	}
}

// hidden asks for one text's hidden one and holds it against another one.
func hidden(t *testing.T, v *veil.Veil, at nonce, b, want []byte) {
	t.Helper()
	if got := v.Hide(at.epoch, at.seq, b); !bytes.Equal(got, want) {
		t.Errorf("P4.3: Hide(%d, %d, %x): %x, not %x", at.epoch, at.seq, b, got, want)
	}
}

// table: pads of all kinds.
func table() []api.Pad {
	return []api.Pad{
		{Epoch: 1, Seq: 2, Bytes: []byte{0x0f, 0xf0}},
		{Epoch: 2, Seq: 1, Bytes: run(40, 3)},
		{Epoch: 0, Seq: 0, Bytes: run(4096, 5)},
		{Epoch: top, Seq: top, Bytes: run(5000, 7)},
		{Epoch: 0, Seq: top, Bytes: []byte{}},
		{Epoch: top, Seq: 0},
		{Epoch: 0, Seq: top, Bytes: fill(16, 0x11)},
		{Epoch: 1, Seq: 2, Bytes: fill(64, 0xee)},
		{Epoch: 256, Seq: 1, Bytes: fill(17, 0)},
		{Epoch: 256, Seq: 1, Bytes: fill(17, 1)},
	}
}

// all: veils of each kind, none too.
func all(t *testing.T) []*veil.Veil {
	t.Helper()
	return []*veil.Veil{
		keyed(t, run(32, 1)), keyed(t, fill(32, 0)), ideal(t), ideal(t, table()...), nil,
	}
}

func TestExamples(t *testing.T) {
	v := ideal(t, api.Pad{Epoch: 1, Seq: 2, Bytes: []byte{0x0f, 0xf0}})
	hidden(t, v, nonce{1, 2}, []byte{0xff, 0xff, 0x01}, []byte{0xf0, 0x0f, 0x01})
	hidden(t, v, nonce{1, 3}, []byte{0xff}, []byte{0xff})
}

func TestKeysOfAnotherLength(t *testing.T) {
	for _, n := range []int{0, 1, 16, 24, 31, 33, 64, 4096} {
		if v, e := veil.New(run(n, 1)); v != nil || e != api.ErrArg {
			t.Errorf("P4.1: a key of %d bytes: %v, %v", n, v, e)
		}
	}
	if v, e := veil.New(nil); v != nil || e != 201 {
		t.Errorf("P4.1: no key: %v, %v", v, e)
	}
	if v, e := veil.New(run(32, 1)[:31]); v != nil || e != api.ErrArg {
		t.Errorf("P4.1: a key of 31 bytes with room for 32: %v, %v", v, e)
	}
	if _, e := veil.New(run(33, 1)[:32]); e != api.OK {
		t.Errorf("P4.1: a key of 32 bytes with room for 33: %v", e)
	}
}

func TestMaskOfAKey(t *testing.T) {
	keys := [][]byte{fill(32, 0), fill(32, 0xff), run(32, 1)}
	r := rand.New(rand.NewSource(4))
	for range 5 {
		key := make([]byte, 32)
		r.Read(key)
		keys = append(keys, key)
	}
	for _, key := range keys {
		v := keyed(t, key)
		for _, at := range nonces() {
			for _, n := range lengths() {
				masked(t, v, at, wantKeyed(t, key, at, n))
			}
		}
		for range 20 {
			at := nonce{r.Uint32(), r.Uint32()}
			masked(t, v, at, wantKeyed(t, key, at, r.Intn(api.MaxMask+1)))
		}
	}
}

func TestMaskOfEachLength(t *testing.T) {
	key, at := run(32, 1), nonce{7, 9}
	v := keyed(t, key)
	long := wantKeyed(t, key, at, api.MaxMask)
	pads := []api.Pad{{Epoch: 7, Seq: 9, Bytes: run(100, 3)}}
	w := ideal(t, pads...)
	for n := range api.MaxMask + 1 {
		masked(t, v, at, long[:n])
		masked(t, w, at, wantIdeal(pads, at, n))
		masked(t, nil, at, make([]byte, n))
	}
}

func TestMaskBlockByBlock(t *testing.T) {
	key := run(32, 3)
	c, e := aes.New(key)
	if e != api.OK {
		t.Fatal(e)
	}
	mask := keyed(t, key).Mask(0x01020304, 0x0a0b0c0d, api.MaxMask)
	if len(mask) != api.MaxMask {
		t.Fatalf("P4.2: %d bytes", len(mask))
	}
	for i := range api.MaxMask / 16 {
		in := [16]byte{0x04, 0x03, 0x02, 0x01, 0x0d, 0x0c, 0x0b, 0x0a, byte(i)}
		if got := [16]byte(mask[16*i:]); got != c.Encrypt(in) {
			t.Errorf("P4.2: block %d: %x, not %x", i, got, c.Encrypt(in))
		}
	}
}

func TestMasksOfUnlikeNonces(t *testing.T) {
	v := keyed(t, run(32, 1))
	met := map[string]nonce{}
	for _, at := range nonces() {
		mask := v.Mask(at.epoch, at.seq, 64)
		for i := 0; i < len(mask); i += 16 {
			if other, ok := met[string(mask[i:i+16])]; ok {
				t.Errorf("P4.2: %v and %v: one block %x", at, other, mask[i:i+16])
			}
			met[string(mask[i:i+16])] = at
		}
	}
}

func TestMaskOfATable(t *testing.T) {
	tables := [][]api.Pad{nil, {}, table(), {{}}, {{Bytes: []byte{1}}}, {{Epoch: 1, Seq: 2}}}
	for _, pads := range tables {
		v := ideal(t, pads...)
		for _, at := range nonces() {
			for _, n := range lengths() {
				masked(t, v, at, wantIdeal(pads, at, n))
			}
		}
	}
}

func TestFirstPadCounts(t *testing.T) {
	v := ideal(t,
		api.Pad{Epoch: 1, Seq: 2, Bytes: []byte{1}},
		api.Pad{Epoch: 2, Seq: 1, Bytes: []byte{}},
		api.Pad{Epoch: 1, Seq: 2, Bytes: []byte{2, 2, 2}},
		api.Pad{Epoch: 2, Seq: 1, Bytes: []byte{3, 3}},
		api.Pad{Epoch: 1, Seq: 2, Bytes: []byte{4}},
	)
	masked(t, v, nonce{1, 2}, []byte{1, 0, 0, 0})
	masked(t, v, nonce{2, 1}, []byte{0, 0, 0})
}

func TestLengthsThatMayNotBe(t *testing.T) {
	for i, v := range all(t) {
		for _, n := range []int{-1, -16, math.MinInt, 4097, 8192, math.MaxInt32, math.MaxInt} {
			for _, at := range nonces() {
				if got := v.Mask(at.epoch, at.seq, n); len(got) != 0 {
					t.Errorf("P4.2: veil %d, Mask of %d bytes: %d of them", i, n, len(got))
				}
			}
		}
		for _, n := range []int{4097, 4112, 8192} {
			if got := v.Hide(0, 0, run(n, 1)); len(got) != 0 {
				t.Errorf("P4.3: veil %d, Hide of %d bytes: %d of them", i, n, len(got))
			}
		}
	}
}

func TestNoVeil(t *testing.T) {
	failed, _ := veil.New(nil)
	for _, none := range []*veil.Veil{nil, failed} {
		for _, n := range lengths() {
			masked(t, none, nonce{1, 2}, make([]byte, n))
			hidden(t, none, nonce{1, 2}, run(n, 3), run(n, 3))
		}
	}
}

func TestHide(t *testing.T) {
	key, pads := run(32, 1), table()
	v, w := keyed(t, key), ideal(t, pads...)
	for _, at := range nonces() {
		for _, n := range lengths() {
			for _, b := range [][]byte{make([]byte, n), fill(n, 0xff), run(n, 11)} {
				hidden(t, v, at, b, xored(b, wantKeyed(t, key, at, n)))
				hidden(t, w, at, b, xored(b, wantIdeal(pads, at, n)))
			}
		}
	}
	for i, each := range all(t) {
		if got := each.Hide(1, 2, nil); len(got) != 0 {
			t.Errorf("P4.3: veil %d, Hide of nothing: %x", i, got)
		}
	}
}

func TestHiddenTwice(t *testing.T) {
	for i, v := range all(t) {
		for _, at := range nonces() {
			for _, n := range lengths() {
				b := run(n, 13)
				if got := v.Hide(at.epoch, at.seq, v.Hide(at.epoch, at.seq, b)); !bytes.Equal(got, b) {
					t.Errorf("P4.4: veil %d, %v, %d bytes hidden twice: %x", i, at, n, got)
				}
			}
		}
	}
}

func TestMasksBeginning(t *testing.T) {
	for i, v := range all(t) {
		for _, at := range nonces() {
			long := v.Mask(at.epoch, at.seq, api.MaxMask)
			for _, n := range lengths() {
				short := v.Mask(at.epoch, at.seq, n)
				if len(short) != n || !bytes.HasPrefix(long, short) {
					t.Errorf("P4.4: veil %d, %v, %d bytes: %x", i, at, n, short)
				}
			}
		}
	}
}

func TestTwoTextsThatLookAlike(t *testing.T) {
	r := rand.New(rand.NewSource(44))
	for _, n := range lengths() {
		one, other, pad := make([]byte, n), make([]byte, n), make([]byte, n)
		r.Read(one)
		r.Read(other)
		r.Read(pad)
		second := xored(xored(one, other), pad)
		v := ideal(t, api.Pad{Epoch: 3, Seq: 4, Bytes: pad})
		w := ideal(t, api.Pad{Epoch: 3, Seq: 4, Bytes: second})
		if a, b := v.Hide(3, 4, one), w.Hide(3, 4, other); len(a) != n || !bytes.Equal(a, b) {
			t.Errorf("P4.4: two texts of %d bytes: %x and %x", n, a, b)
		}
	}
}

func TestNothingIsKept(t *testing.T) {
	key := run(32, 1)
	v := keyed(t, key)
	copy(key, fill(32, 0xaa))
	pads := table()
	w := ideal(t, pads...)
	for i := range pads {
		copy(pads[i].Bytes, fill(len(pads[i].Bytes), 0xaa))
		pads[i] = api.Pad{Epoch: 9, Seq: 9, Bytes: fill(9, 9)}
	}
	for _, at := range append(nonces(), nonce{9, 9}) {
		masked(t, v, at, wantKeyed(t, run(32, 1), at, 100))
		masked(t, w, at, wantIdeal(table(), at, 100))
	}
}

func TestArgumentsStay(t *testing.T) {
	keyRoom, textRoom, padRoom := run(64, 3), run(64, 5), run(64, 7)
	pads := make([]api.Pad, 1, 3)
	pads[0] = api.Pad{Epoch: 1, Seq: 2, Bytes: padRoom[:20]}
	v, w := keyed(t, keyRoom[:32]), ideal(t, pads...)
	for _, each := range []*veil.Veil{v, w, nil} {
		each.Mask(1, 2, 64)
		each.Hide(1, 2, textRoom[:33])
	}
	if !bytes.Equal(keyRoom, run(64, 3)) || !bytes.Equal(padRoom, run(64, 7)) {
		t.Errorf("P4.1: the key or the pad was changed: %x, %x", keyRoom, padRoom)
	}
	if !bytes.Equal(textRoom, run(64, 5)) {
		t.Errorf("P4.3: the text was changed: %x", textRoom)
	}
	for i, p := range pads[:3] {
		if i > 0 && (p.Epoch != 0 || p.Seq != 0 || p.Bytes != nil) {
			t.Errorf("P4.1: the table's spare room was changed: %v", p)
		}
	}
	if p := pads[0]; p.Epoch != 1 || p.Seq != 2 || len(p.Bytes) != 20 {
		t.Errorf("P4.1: the table was changed: %v", p)
	}
}

func TestAnswersAreNewMemory(t *testing.T) {
	for i, v := range all(t) {
		for _, at := range nonces() {
			was := v.Mask(at.epoch, at.seq, 48)
			want := bytes.Clone(was)
			copy(was, fill(48, 0xcc))
			masked(t, v, at, want)

			text := run(48, 5)
			out := v.Hide(at.epoch, at.seq, text)
			copy(out, fill(48, 0xcc))
			if !bytes.Equal(text, run(48, 5)) {
				t.Errorf("P4.3: veil %d: the answer is the text's own memory", i)
			}
			masked(t, v, at, want)
			hidden(t, v, at, text, xored(text, want))
		}
	}
}

func TestVeilsSideBySide(t *testing.T) {
	one, other := run(32, 1), run(32, 2)
	pads := []api.Pad{{Epoch: 1, Seq: 2, Bytes: fill(50, 0x33)}}
	v, w := keyed(t, one), keyed(t, other)
	x, y := ideal(t, table()...), ideal(t, pads...)
	for range 3 {
		for _, at := range nonces() {
			masked(t, v, at, wantKeyed(t, one, at, 40))
			masked(t, x, at, wantIdeal(table(), at, 40))
			masked(t, w, at, wantKeyed(t, other, at, 40))
			masked(t, y, at, wantIdeal(pads, at, 40))
			if bytes.Equal(v.Mask(at.epoch, at.seq, 40), w.Mask(at.epoch, at.seq, 40)) {
				t.Errorf("P4.2: two keys, one mask of %v", at)
			}
		}
	}
}
