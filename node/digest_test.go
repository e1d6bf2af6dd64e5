package node_test

import (
	"bytes"
	"encoding/hex"
	"testing"

	"oubliette/api"
	"oubliette/node"
)

// digests: the digest is the library's.
func digests(t *testing.T, at nonce, hidden []byte) {
	t.Helper()
	if got := node.Digest(at.epoch, at.seq, hidden); got != wantDigest(at, hidden) {
		t.Errorf("P6.2: Digest(%v, %d bytes): %x, not %x", at, len(hidden), got, wantDigest(at, hidden))
	}
}

// TestDigestByHand: the digests of eight bytes 0, and of 01 .. 08 and "abc", worked out elsewhere.
func TestDigestByHand(t *testing.T) {
	for _, x := range []struct {
		epoch, seq uint32
		hidden     []byte
		want       string
	}{
		{0, 0, nil, "af5570f5a1810b7af78caf4bc70a660f0df51e42baf91d4de5b2328de0e83dfc"},
		{0x04030201, 0x08070605, []byte("abc"), "2403e86c308f96fa28b1e70bcce66b74599dd7121b6c3b940be4f455765a747f"},
	} {
		if got := node.Digest(x.epoch, x.seq, x.hidden); hex.EncodeToString(got[:]) != x.want {
			t.Errorf("P6.2: Digest(%d, %d, %x): %x, not %s", x.epoch, x.seq, x.hidden, got, x.want)
		}
	}
}

func TestDigestOfEachLength(t *testing.T) {
	for n := range 600 {
		for _, at := range []nonce{{0, 0}, {0x01020304, 0x05060708}, {top, top}} {
			digests(t, at, run(n, 3))
			digests(t, at, make([]byte, n))
		}
	}
	for _, n := range []int{4095, 4096, 4097, 1 << 16, 1<<20 + 1} {
		digests(t, nonce{3, 4}, run(n, 9))
	}
}

func TestDigestOfEachNonce(t *testing.T) {
	for _, at := range nonces() {
		for _, b := range [][]byte{nil, {}, {0}, []byte("abc"), fill(256, 0), run(256, 1)} {
			digests(t, at, b)
		}
	}
}

// TestDigestsOfUnlikeNonces: each bit of the epoch and of the sequence counts, and which of both it is of.
func TestDigestsOfUnlikeNonces(t *testing.T) {
	for _, b := range [][]byte{nil, run(256, 1), fill(300, 0)} {
		met := map[api.Sum]nonce{}
		for i := range 65 {
			at := nonce{0x01020304, 0x05060708}
			if i < 32 {
				at.epoch ^= 1 << i
			} else if i < 64 {
				at.seq ^= 1 << (i - 32)
			}
			for _, x := range []nonce{at, {at.seq, at.epoch}} {
				digests(t, x, b)
				s := node.Digest(x.epoch, x.seq, b)
				if other, ok := met[s]; ok {
					t.Errorf("P6.2: %v and %v have one digest: %x", x, other, s)
				}
				met[s] = x
			}
		}
	}
}

// TestDigestArguments: they stay, aren't kept, and no answer hangs on the calls before.
func TestDigestArguments(t *testing.T) {
	room := run(400, 5)
	for _, n := range []int{0, 1, 255, 256, 257, 300} {
		want := wantDigest(nonce{7, 8}, run(400, 5)[:n])
		for range 3 {
			got := node.Digest(7, 8, room[:n])
			if got != want {
				t.Errorf("P6.2: Digest of %d bytes: %x, not %x", n, got, want)
			}
			clear(got[:])
		}
	}
	if !bytes.Equal(room, run(400, 5)) {
		t.Errorf("P6.2: what was handed in is changed: %x", room)
	}
	s := node.Digest(7, 8, room)
	clear(room)
	if s != wantDigest(nonce{7, 8}, run(400, 5)) {
		t.Errorf("P6.2: the digest changed with the bytes: %x", s)
	}
}
