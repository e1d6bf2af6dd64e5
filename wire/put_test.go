package wire_test

import (
	"bytes"
	"encoding/binary"
	"math"
	"strings"
	"testing"

	"oubliette/api"
	"oubliette/wire"
)

// greatest numbers of the sizes.
var greatest = map[int]uint64{1: math.MaxUint8, 2: math.MaxUint16, 4: math.MaxUint32, 8: math.MaxUint64}

// wrongSizes: numbers that are no size.
var wrongSizes = []int{0, 3, 5, 6, 7, 9, 16, 32, 64, -1, -8, math.MaxInt, math.MinInt}

// littleEndian: the bytes that a number of a size is, by the library.
func littleEndian(size int, v uint64) []byte {
	return binary.LittleEndian.AppendUint64(nil, v)[:size]
}

func TestPutNumbers(t *testing.T) {
	for size, most := range greatest {
		for _, v := range []uint64{0, 1, 0x7f, 0x80, 0xff, 0x102, 0x8000, 0xffff, 0x1020304, 1 << 31, 0x102030405060708, 1 << 63, most - 1, most} {
			if v > most {
				continue
			}
			b, e := wire.Put([]byte{7, 8}, size, v)
			if want := append([]byte{7, 8}, littleEndian(size, v)...); e != api.OK || !bytes.Equal(b, want) {
				t.Errorf("P1.1: Put(07 08, %d, %x): % x %v, want % x", size, v, b, e, want)
			}
		}
	}
	if b, e := wire.Put(nil, 4, 258); e != api.OK || !bytes.Equal(b, []byte{2, 1, 0, 0}) {
		t.Errorf("P1.1: Put(none, 4, 258): % x %v", b, e)
	}
}

func TestPutAboveASize(t *testing.T) {
	for size, most := range greatest {
		if size == 8 {
			continue
		}
		for _, v := range []uint64{most + 1, most + 2, 2 * most, 1 << 32, 1 << 63, math.MaxUint64} {
			if v <= most {
				continue
			}
			if b, e := wire.Put([]byte{7}, size, v); e != api.ErrLong || len(b) != 0 {
				t.Errorf("P1.1: Put(07, %d, %x): % x %v", size, v, b, e)
			}
		}
	}
}

func TestPutWrongSize(t *testing.T) {
	for _, size := range wrongSizes {
		for _, v := range []uint64{0, 1, math.MaxUint64} {
			if b, e := wire.Put([]byte{7}, size, v); e != api.ErrArg || len(b) != 0 {
				t.Errorf("P1.1: Put(07, %d, %x): % x %v", size, v, b, e)
			}
		}
	}
}

func TestPutTexts(t *testing.T) {
	for _, s := range []string{"", "a", "ab", "é", "\xff\x00\xc0", strings.Repeat("x", 255), strings.Repeat("x", 256), strings.Repeat("é", 32767) + "a", strings.Repeat("z", 65535)} {
		want := append([]byte{7}, byte(len(s)), byte(len(s)>>8))
		want = append(want, s...)
		if b, e := wire.Text([]byte{7}, s); e != api.OK || !bytes.Equal(b, want) {
			t.Errorf("P1.1: Text of %d bytes: %d bytes, %v", len(s), len(b), e)
		}
	}
	for _, n := range []int{65536, 65537, 131072} {
		if b, e := wire.Text([]byte{7}, strings.Repeat("x", n)); e != api.ErrLong || len(b) != 0 {
			t.Errorf("P1.1: Text of %d bytes: %d bytes, %v", n, len(b), e)
		}
	}
	if b, e := wire.Text(nil, strings.Repeat("é", 32768)); e != api.ErrLong || len(b) != 0 {
		t.Errorf("P1.1: Text of 32768 runes of two bytes: %d bytes, %v", len(b), e)
	}
}

// TestPutLeavesItsArgument: b stays as it was, its spare room too, and what is answered shares nothing with it.
func TestPutLeavesItsArgument(t *testing.T) {
	puts := map[string]func(b []byte) []byte{
		"Put":       func(b []byte) []byte { out, _ := wire.Put(b, 8, math.MaxUint64); return out },
		"Text":      func(b []byte) []byte { out, _ := wire.Text(b, "hello"); return out },
		"Text none": func(b []byte) []byte { out, _ := wire.Text(b, ""); return out },
		"wrong":     func(b []byte) []byte { out, _ := wire.Put(b, 3, 1); return out },
		"too great": func(b []byte) []byte { out, _ := wire.Put(b, 1, 256); return out },
	}
	for name, put := range puts {
		store := bytes.Repeat([]byte{5}, 64)
		first := put(store[:3])
		second := put(store[:3])
		if !bytes.Equal(store, bytes.Repeat([]byte{5}, 64)) {
			t.Errorf("P1.1: %s wrote into what was handed in: % x", name, store)
		}
		kept := bytes.Clone(first)
		clear(store)
		for i := range second {
			second[i] = 99
		}
		if !bytes.Equal(first, kept) {
			t.Errorf("P1.1: %s: the answer shares memory: % x, was % x", name, first, kept)
		}
	}
}
