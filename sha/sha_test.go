package sha_test

import (
	"bytes"
	"crypto/sha256"
	"encoding/hex"
	"math/rand"
	"strings"
	"testing"

	"oubliette/api"
	"oubliette/sha"
)

// ofNone and ofABC are the digests of the chapter's examples.
const (
	ofNone = "e3b0c44298fc1c149afbf4c8996fb92427ae41e4649b934ca495991b7852b855"
	ofABC  = "ba7816bf8f01cfea414140de5dae2223b00361a396177a9cb410ff61f20015ad"
)

// message: so many bytes of a kind that hangs on the seed.
func message(seed int64, n int) []byte {
	b := make([]byte, n)
	rand.New(rand.NewSource(seed)).Read(b)
	return b
}

// want: the digest by the library.
func want(b []byte) api.Sum { return sha256.Sum256(b) }

// ofText: the digest that digits tell.
func ofText(t *testing.T, digits string) api.Sum {
	t.Helper()
	b, err := hex.DecodeString(digits)
	if err != nil || len(b) != api.SumLen {
		t.Fatalf("no digest: %s", digits)
	}
	return api.Sum(b)
}

func TestExamples(t *testing.T) {
	none, abc := ofText(t, ofNone), ofText(t, ofABC)
	if s := sha.Of(nil); s != none {
		t.Errorf("P2.1: of no list: %x", s)
	}
	if s := sha.Of([]byte{}); s != none {
		t.Errorf("P2.1: of no bytes: %x", s)
	}
	if s := sha.Of([]byte("abc")); s != abc {
		t.Errorf("P2.1: of abc: %x", s)
	}
	if s := sha.New().Sum(); s != none {
		t.Errorf("P2.2: of a new hash: %x", s)
	}
	h := sha.New()
	h.Add([]byte("abc"))
	if s := h.Sum(); s != abc {
		t.Errorf("P2.2: of abc: %x", s)
	}
	if sha.Text(none) != ofNone || sha.Text(abc) != ofABC {
		t.Errorf("P2.3: %s %s", sha.Text(none), sha.Text(abc))
	}
}

func TestOfEachLength(t *testing.T) {
	for n := range 400 {
		for _, b := range [][]byte{message(int64(n), n), make([]byte, n), bytes.Repeat([]byte{0xff}, n)} {
			if s := sha.Of(b); s != want(b) {
				t.Errorf("P2.1: of %d bytes %x..: %x, want %x", n, b[:min(n, 4)], s, want(b))
			}
		}
	}
}

func TestOfManyBlocks(t *testing.T) {
	for _, n := range []int{1000, 4095, 4096, 4097, 65536, 1 << 20, 1<<21 + 56, 1<<25 + 1} {
		b := message(int64(n), n)
		if s := sha.Of(b); s != want(b) {
			t.Errorf("P2.1: of %d bytes: %x, want %x", n, s, want(b))
		}
	}
}

// More than 2^29 bytes have more bits than a word of 32 holds.
func TestLengthAboveAWord(t *testing.T) {
	if testing.Short() {
		t.Skip("it takes seconds")
	}
	piece := message(1, 1<<20+1)
	h, lib := sha.New(), sha256.New()
	for range 1<<9 + 1 {
		h.Add(piece)
		lib.Write(piece)
	}
	if s := h.Sum(); !bytes.Equal(s[:], lib.Sum(nil)) {
		t.Errorf("P2.2: of more than 2^29 bytes: %x, want %x", s, lib.Sum(nil))
	}
}

// inPieces: the digest of a message of which each length says a piece; what is left comes last.
func inPieces(b []byte, lengths []int) api.Sum {
	h := sha.New()
	for _, n := range lengths {
		n = min(n, len(b))
		h.Add(b[:n])
		b = b[n:]
	}
	h.Add(b)
	return h.Sum()
}

func TestTwoPieces(t *testing.T) {
	for _, n := range []int{0, 1, 55, 56, 57, 63, 64, 65, 119, 120, 121, 127, 128, 129, 192, 200} {
		b := message(int64(n)+9, n)
		for first := range n + 1 {
			if s := inPieces(b, []int{first}); s != want(b) {
				t.Errorf("P2.4: %d bytes, then %d: %x, want %x", first, n-first, s, want(b))
			}
			if s := inPieces(b, []int{0, first, 0, 0}); s != want(b) {
				t.Errorf("P2.4: none, %d bytes, none, none, then %d: %x, want %x", first, n-first, s, want(b))
			}
		}
	}
}

func TestAnyPieces(t *testing.T) {
	r := rand.New(rand.NewSource(2))
	for round := range 300 {
		b := message(int64(round), r.Intn(1000))
		var lengths []int
		for range r.Intn(40) {
			lengths = append(lengths, r.Intn(1+r.Intn(200)))
		}
		if s := inPieces(b, lengths); s != want(b) {
			t.Errorf("P2.4: %d bytes in pieces %v: %x, want %x", len(b), lengths, s, want(b))
		}
	}
	b := message(3, 260)
	if s := inPieces(b, times(1, 260)); s != want(b) {
		t.Errorf("P2.4: byte by byte: %x", s)
	}
}

// times: so many times one number.
func times(x, n int) []int {
	list := make([]int, n)
	for i := range list {
		list[i] = x
	}
	return list
}

func TestSumAgain(t *testing.T) {
	b := message(4, 400)
	h := sha.New()
	for n := range b {
		for range 3 {
			if s := h.Sum(); s != want(b[:n]) {
				t.Fatalf("P2.2: asked again at %d bytes: %x, want %x", n, s, want(b[:n]))
			}
		}
		h.Add(b[n : n+1])
	}
	if s := h.Sum(); s != want(b) {
		t.Errorf("P2.2: at the end: %x", s)
	}
}

func TestHashesApart(t *testing.T) {
	a, b := sha.New(), sha.New()
	a.Add([]byte("abc"))
	b.Add([]byte("x"))
	if a.Sum() != want([]byte("abc")) || b.Sum() != want([]byte("x")) || sha.New().Sum() != want(nil) {
		t.Error("P2.2: what was added to one hash is in another one")
	}
}

func TestNoHash(t *testing.T) {
	var h *sha.Hash
	h.Add([]byte("abc"))
	h.Add(nil)
	if s := h.Sum(); sha.Text(s) != ofNone {
		t.Errorf("P2.2: of no hash: %x", s)
	}
	if s := sha.New().Sum(); sha.Text(s) != ofNone {
		t.Errorf("P2.2: what no hash was given is in a new one: %x", s)
	}
}

func TestWrittenOver(t *testing.T) {
	for _, n := range []int{1, 55, 56, 63, 64, 65, 128, 200} {
		b := message(5, n)
		keep := bytes.Clone(b)
		h := sha.New()
		h.Add(b)
		clear(b)
		h.Add(b)
		clear(b)
		if s := h.Sum(); s != want(append(keep, make([]byte, n)...)) {
			t.Errorf("P2.2: %d bytes written over behind the call: %x", n, s)
		}
	}
}

func TestHandedInStays(t *testing.T) {
	room := message(6, 300)
	keep := bytes.Clone(room)
	for n := range 200 {
		sha.Of(room[:n])
		h := sha.New()
		h.Add(room[:n])
		h.Sum()
		h.Add(room[:n/2])
		h.Sum()
	}
	if !bytes.Equal(room, keep) {
		t.Error("P2.1, P2.2: what was handed in is changed")
	}
}

func TestText(t *testing.T) {
	var s api.Sum
	if text := sha.Text(s); text != strings.Repeat("0", 64) {
		t.Errorf("P2.3: of bytes 0: %s", text)
	}
	for first := range 256 {
		for i := range s {
			s[i] = byte(first + 7*i)
		}
		if text := sha.Text(s); text != hex.EncodeToString(s[:]) {
			t.Errorf("P2.3: %s, want %x", text, s)
		}
	}
	if text := sha.Text(api.Sum{0x0a, 0x00, 0x01, 31: 0x0f}); text != "0a0001"+strings.Repeat("0", 57)+"f" {
		t.Errorf("P2.3: digits that begin with 0: %s", text)
	}
}
