package aes_test

import (
	"bytes"
	libaes "crypto/aes"
	"encoding/hex"
	"math/bits"
	"math/rand"
	"testing"

	"oubliette/aes"
	"oubliette/api"
)

// run: so many bytes, each greater by step than the one ahead.
func run(n int, step byte) []byte {
	b := make([]byte, n)
	for i := range b {
		b[i] = byte(i) * step
	}
	return b
}

// fill: so many bytes of one value.
func fill(n int, x byte) []byte { return bytes.Repeat([]byte{x}, n) }

// cipher makes one of a key that should do.
func cipher(t *testing.T, key []byte) *aes.Cipher {
	t.Helper()
	c, e := aes.New(key)
	if e != api.OK || c == nil {
		t.Fatalf("P3.2: New(%x): %v, %v", key, c, e)
	}
	return c
}

// want: the block by the library.
func want(t *testing.T, key []byte, in [16]byte) [16]byte {
	t.Helper()
	lib, err := libaes.NewCipher(key)
	if err != nil {
		t.Fatal(err)
	}
	var out [16]byte
	lib.Encrypt(out[:], in[:])
	return out
}

// agree asks for one block and holds the answer against the library's.
func agree(t *testing.T, c *aes.Cipher, key []byte, in [16]byte) {
	t.Helper()
	if got, w := c.Encrypt(in), want(t, key, in); got != w {
		t.Errorf("P3.3: key %x, block %x: %x, not %x", key, in, got, w)
	}
}

// product: two bytes' product, bit by bit as the chapter's words have it.
func product(x, y byte) byte {
	var p int
	for i := range 8 {
		if y>>i&1 == 1 {
			p ^= int(x) << i
		}
	}
	for i := 14; i >= 8; i-- {
		if p>>i&1 == 1 {
			p ^= 0x11b << (i - 8)
		}
	}
	return byte(p)
}

// inverse: the byte whose product with x is 1; of 0: 0.
func inverse(x byte) byte {
	for y := range 256 {
		if product(x, byte(y)) == 1 {
			return byte(y)
		}
	}
	return 0
}

func TestExamples(t *testing.T) {
	if b := aes.Box(0); b != 0x63 {
		t.Errorf("P3.1: Box(0): %x", b)
	}
	if b := aes.Box(0x53); b != 0xed {
		t.Errorf("P3.1: Box(53): %x", b)
	}
	got := cipher(t, run(32, 1)).Encrypt([16]byte(run(16, 0x11)))
	if hex.EncodeToString(got[:]) != "8ea2b7ca516745bfeafc49904b496089" {
		t.Errorf("P3.3: the example's block: %x", got)
	}
}

func TestBoxOfEveryByte(t *testing.T) {
	for i := range 256 {
		y := inverse(byte(i))
		w := y ^ 0x63
		for n := 1; n <= 4; n++ {
			w ^= bits.RotateLeft8(y, n)
		}
		if b := aes.Box(byte(i)); b != w {
			t.Errorf("P3.1: Box(%x): %x, not %x", i, b, w)
		}
	}
}

func TestBoxIsOneToOne(t *testing.T) {
	from := map[byte]int{}
	for i := range 256 {
		b := aes.Box(byte(i))
		if j, ok := from[b]; ok {
			t.Errorf("P3.4: Box(%x) and Box(%x) are both %x", j, i, b)
		}
		from[b] = i
	}
}

func TestKeysOfAnotherLength(t *testing.T) {
	lens := []int{0, 1, 15, 16, 24, 31, 33, 64, 4096}
	for _, n := range lens {
		if c, e := aes.New(run(n, 1)); c != nil || e != api.ErrArg {
			t.Errorf("P3.2: a key of %d bytes: %v, %v", n, c, e)
		}
	}
	if c, e := aes.New(nil); c != nil || e != 201 {
		t.Errorf("P3.2: no key: %v, %v", c, e)
	}
	// What lies in the spare room isn't the key's.
	if c, e := aes.New(run(32, 1)[:31]); c != nil || e != api.ErrArg {
		t.Errorf("P3.2: a key of 31 bytes with room for 32: %v, %v", c, e)
	}
}

func TestNoCipher(t *testing.T) {
	var none *aes.Cipher
	failed, _ := aes.New(nil)
	for _, in := range [][16]byte{{}, [16]byte(run(16, 0x11)), [16]byte(fill(16, 0xff))} {
		if out := none.Encrypt(in); out != in {
			t.Errorf("P3.3: no cipher: %x of %x", out, in)
		}
		if out := failed.Encrypt(in); out != in {
			t.Errorf("P3.3: the cipher of no key: %x of %x", out, in)
		}
	}
}

func TestKeyIsNotKept(t *testing.T) {
	key := run(32, 1)
	c := cipher(t, key)
	in := [16]byte(run(16, 0x11))
	w := want(t, run(32, 1), in)
	copy(key, fill(32, 0xaa))
	if got := c.Encrypt(in); got != w {
		t.Errorf("P3.2: the key written over behind New: %x, not %x", got, w)
	}
	if got := c.Encrypt(in); got != w {
		t.Errorf("P3.2: asked once more: %x, not %x", got, w)
	}
}

func TestArgumentsStay(t *testing.T) {
	room := append(run(32, 3), fill(32, 0x77)...)
	was := bytes.Clone(room)
	c := cipher(t, room[:32])
	in := [16]byte(run(16, 5))
	had := in
	out := c.Encrypt(in)
	if !bytes.Equal(room, was) {
		t.Errorf("P3.2: the key, or its spare room, was changed: %x", room)
	}
	if in != had {
		t.Errorf("P3.3: the block was changed: %x", in)
	}
	out[0]++
	agree(t, c, was[:32], in)
}

func TestAgainstTheLibrary(t *testing.T) {
	keys := [][]byte{fill(32, 0), fill(32, 0xff), run(32, 1), run(32, 7)}
	blocks := [][16]byte{{}, [16]byte(fill(16, 0xff)), [16]byte(run(16, 0x11)), [16]byte(run(16, 1))}
	r := rand.New(rand.NewSource(3))
	for range 200 {
		key, block := make([]byte, 32), [16]byte{}
		r.Read(key)
		r.Read(block[:])
		keys, blocks = append(keys, key), append(blocks, block)
	}
	for i, key := range keys {
		c := cipher(t, key)
		for j := range 8 {
			agree(t, c, key, blocks[(i+j)%len(blocks)])
		}
		agree(t, c, key, blocks[0])
		agree(t, c, key, blocks[1])
	}
}

func TestEachByteAlone(t *testing.T) {
	key := fill(32, 0)
	c := cipher(t, key)
	for place := range 16 {
		for x := range 256 {
			var in [16]byte
			in[place] = byte(x)
			agree(t, c, key, in)
		}
	}
}

func TestKeysThatDifferInOneBit(t *testing.T) {
	in := [16]byte(run(16, 0x11))
	met := map[[16]byte]int{cipher(t, run(32, 1)).Encrypt(in): -1}
	for bit := range 256 {
		key := run(32, 1)
		key[bit/8] ^= 1 << (bit % 8)
		c := cipher(t, key)
		agree(t, c, key, in)
		out := c.Encrypt(in)
		if other, ok := met[out]; ok {
			t.Errorf("P3.3: keys with bits %d and %d turned: both %x", other, bit, out)
		}
		met[out] = bit
	}
}

func TestBlocksThatDifferInOneBit(t *testing.T) {
	for _, key := range [][]byte{fill(32, 0), fill(32, 0xff), run(32, 1)} {
		c := cipher(t, key)
		in := [16]byte(run(16, 0x11))
		met := map[[16]byte]int{c.Encrypt(in): -1}
		for bit := range 128 {
			turned := in
			turned[bit/8] ^= 1 << (bit % 8)
			agree(t, c, key, turned)
			out := c.Encrypt(turned)
			if other, ok := met[out]; ok {
				t.Errorf("P3.4: blocks with bits %d and %d turned: both %x", other, bit, out)
			}
			met[out] = bit
		}
	}
}

func TestUnlikeBlocksComeToUnlikeOnes(t *testing.T) {
	c := cipher(t, run(32, 9))
	from := map[[16]byte]int{}
	for i := range 1 << 14 {
		in := [16]byte{3: byte(i), 12: byte(i >> 8)}
		out := c.Encrypt(in)
		if j, ok := from[out]; ok {
			t.Fatalf("P3.4: blocks %d and %d are both %x", j, i, out)
		}
		from[out] = i
	}
}

func TestOneCipherAgainAndAgain(t *testing.T) {
	key := run(32, 1)
	c := cipher(t, key)
	lib, err := libaes.NewCipher(key)
	if err != nil {
		t.Fatal(err)
	}
	var block, w [16]byte
	first := c.Encrypt(block)
	for i := range 1000 {
		block = c.Encrypt(block)
		lib.Encrypt(w[:], w[:])
		if block != w {
			t.Fatalf("P3.3: the block behind %d times: %x, not %x", i+1, block, w)
		}
	}
	if again := c.Encrypt([16]byte{}); again != first {
		t.Errorf("P3.3: first %x, then %x", first, again)
	}
}

func TestTwoCiphersSideBySide(t *testing.T) {
	one, other := fill(32, 0), fill(32, 0xff)
	c, d := cipher(t, one), cipher(t, other)
	e := cipher(t, one)
	for i := range 64 {
		in := [16]byte{byte(i), 15: byte(3 * i)}
		agree(t, c, one, in)
		agree(t, d, other, in)
		agree(t, e, one, in)
		if c.Encrypt(in) == d.Encrypt(in) {
			t.Errorf("P3.3: two keys, one block of %x", in)
		}
	}
}
