package grant_test

import (
	"math/rand"
	"testing"

	"oubliette/api"
	"oubliette/grant"
)

// blocks: of some supers.
func blocks() [][]byte {
	r := rand.New(rand.NewSource(102))
	return [][]byte{wantBlock(with()), wantBlock(full()), wantBlock(allUsed()), wantBlock(byChance(r)), wantBlock(byChance(r))}
}

func TestUnpackLengths(t *testing.T) {
	noForm(t, "no bytes", nil)
	noForm(t, "no bytes", []byte{})
	for _, b := range blocks() {
		for n := range 256 {
			noForm(t, "cut", b[:n])
			if n > 0 {
				noForm(t, "cut at its beginning", b[n:])
			}
		}
		for _, n := range []int{1, 2, 76, 255, 256, 257} {
			noForm(t, "lengthened", append(append([]byte(nil), b...), make([]byte, n)...))
			noForm(t, "lengthened at its beginning", append(make([]byte, n), b...))
		}
		noForm(t, "lengthened", append(append([]byte(nil), b...), 0xff))
		noForm(t, "twice", append(append([]byte(nil), b...), b...))
	}
}

func TestUnpackFirstBytes(t *testing.T) {
	noForm(t, "bytes 0", make([]byte, 256))
	for _, b := range blocks() {
		for at := range serialAt {
			for x := range 256 {
				if byte(x) != b[at] {
					noForm(t, "another first byte", set(b, at, byte(x)))
				}
			}
		}
		noForm(t, "first bytes turned", append([]byte{0x31, 0x42, 0x55, 0x4f}, b[4:]...))
	}
}

// TestUnpackBehind: each bit, and each byte, behind the orphans.
func TestUnpackBehind(t *testing.T) {
	for _, b := range blocks() {
		for at := endAt; at < 256; at++ {
			for bit := range 8 {
				noForm(t, "a bit behind the orphans", set(b, at, 1<<bit))
			}
			noForm(t, "a byte behind the orphans", set(b, at, 0xff))
			noForm(t, "a byte behind the orphans", set(b, at, 0x7e))
		}
	}
}

// TestUnpackByHand: blocks of what may not be, byte by byte.
func TestUnpackByHand(t *testing.T) {
	two := with(5, 6)
	two.Inodes[1], two.Inodes[64] = 5, 6
	b := wantBlock(two)
	if s, e := grant.Unpack(b); e != api.OK || s != two {
		t.Fatalf("P10.1: Unpack(%x): %v, %v", b, s, e)
	}
	last := inodesAt + 2*63
	noForm(t, "two inodes of one slot", set(b, last, 5))
	noForm(t, "a slot that isn't used", set(b, last, 7))
	noForm(t, "slot 256", set(set(b, last, 0), last+1, 1))
	noForm(t, "slot 262", set(b, last+1, 1))
	noForm(t, "slot 65535", set(set(b, last, 255), last+1, 255))
	noForm(t, "a slot that isn't used any more", set(b, usedAt, 0x21))
	noForm(t, "slot 0 isn't used", set(b, usedAt, 0x60))
	noForm(t, "serial 0", set(b, serialAt, 0))
	noForm(t, "an orphan that isn't there, 2", set(b, orphansAt, 2))
	noForm(t, "an orphan that isn't there, 63", set(b, orphansAt+7, 0x40))
	for _, at := range []int{orphansAt, orphansAt + 7} {
		for x := range 256 {
			want := two
			want.Orphans[1] = at == orphansAt && x == 1
			want.Orphans[64] = at == orphansAt+7 && x == 0x80
			if x == 0 || want != two {
				if s, e := grant.Unpack(set(b, at, byte(x))); e != api.OK || s != want {
					t.Fatalf("P10.1: Unpack with byte %d %x: %v, %v; not %v", at, x, s, e, want)
				}
			} else {
				noForm(t, "an orphan that isn't there", set(b, at, byte(x)))
			}
		}
	}
}

// TestUnpackWrong: the bytes of supers that may not be, as they would be if such a super had any.
func TestUnpackWrong(t *testing.T) {
	for _, from := range []api.Super{with(), full(), allUsed()} {
		for _, w := range wrongs(from) {
			b := wantBlock(w.s)
			if s, ok := readBlock(b); ok { // what is wrong with it isn't told by the bytes
				packs(t, s)
			} else {
				noForm(t, w.why, b)
			}
		}
	}
}

// others: what a byte comes to: each bit of it turned, all of them, one more, one less, and some that begin and end with something.
func others(x byte) []byte {
	out := []byte{x, ^x, x + 1, x - 1, 0, 1, 2, 0x40, 0x7f, 0x80, 0xfe, 0xff}
	for bit := range 8 {
		out = append(out, x^1<<bit)
	}
	return out
}

// TestUnpackEachByte: each byte of some blocks comes to others; what is read then is packed to these bytes again.
func TestUnpackEachByte(t *testing.T) {
	read := 0
	for _, b := range blocks() {
		for at, x := range b {
			for _, other := range others(x) {
				turned := set(b, at, other)
				want, ok := readBlock(turned)
				if !ok {
					noForm(t, "a byte turned", turned)
					continue
				}
				if s, e := grant.Unpack(turned); e != api.OK || s != want {
					t.Fatalf("P10.5: Unpack(%x): %v, %v; not %v", turned, s, e, want)
				}
				packs(t, want)
				read++
			}
		}
	}
	if read < 2000 {
		t.Errorf("the test's own: %d blocks read", read)
	}
}

// TestUnpackByChance: bytes of which some are as they may be, by chance.
func TestUnpackByChance(t *testing.T) {
	r := rand.New(rand.NewSource(103))
	for range 20000 {
		b := wantBlock(byChance(r))
		for range 1 + r.Intn(4) {
			b[r.Intn(endAt)] = byte(r.Intn(256))
		}
		if want, ok := readBlock(b); !ok {
			noForm(t, "by chance", b)
		} else if s, e := grant.Unpack(b); e != api.OK || s != want {
			t.Fatalf("P10.1: Unpack(%x): %v, %v; not %v", b, s, e, want)
		}
	}
	for range 2000 {
		b := make([]byte, 256)
		r.Read(b)
		noForm(t, "by chance", b)
	}
}
