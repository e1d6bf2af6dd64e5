package world_test

import (
	"bytes"
	"testing"

	"oubliette/api"
	"oubliette/world"
)

// fill: a block of one byte's value.
func fill(x byte) []byte { return bytes.Repeat([]byte{x}, api.BlockLen) }

// run: so many bytes, no two beside each other alike.
func run(n int, step byte) []byte {
	b := make([]byte, n)
	for i := range b {
		b[i] = byte(i)*7 + step
	}
	return b
}

// disk makes a disk that should do.
func disk(t *testing.T, blocks int) *world.Disk {
	t.Helper()
	d, e := world.New(blocks)
	if e != api.OK || d == nil {
		t.Fatalf("P5.1: New(%d): %v, %v", blocks, d, e)
	}
	return d
}

// write writes blocks of one byte's value each to one block, and all should do.
func write(t *testing.T, d *world.Disk, at int, values ...byte) {
	t.Helper()
	for _, x := range values {
		if e := d.Write(at, fill(x)); e != api.OK {
			t.Fatalf("P5.1: Write(%d): %v", at, e)
		}
	}
}

// tamper does what should do.
func tamper(t *testing.T, d *world.Disk, kind, at, n int, b ...byte) {
	t.Helper()
	if e := d.Tamper(api.Tamper{Kind: kind, At: at, N: n, Bytes: b}); e != api.OK {
		t.Fatalf("P5.3: Tamper(kind %d, at %d, n %d): %v", kind, at, n, e)
	}
}

// has: a block is these bytes now.
func has(t *testing.T, promise string, d *world.Disk, at int, want []byte) {
	t.Helper()
	if got, e := d.Peek(at); e != api.OK || !bytes.Equal(got, want) {
		t.Errorf("%s: block %d: %x, %v; not %x", promise, at, got, e, want)
	}
}

// hold: the blocks from 0 on are of these bytes' values now.
func hold(t *testing.T, promise string, d *world.Disk, values ...byte) {
	t.Helper()
	for at, x := range values {
		has(t, promise, d, at, fill(x))
	}
}

// waits: so many writes wait.
func waits(t *testing.T, promise string, d *world.Disk, want int) {
	t.Helper()
	if got := d.Waiting(); got != want {
		t.Errorf("%s: Waiting: %d, not %d", promise, got, want)
	}
}

// traced: a trace is this one, and so long.
func traced(t *testing.T, promise string, got, want []api.Touch, touched int) {
	t.Helper()
	if len(got) != len(want) || touched != len(want) {
		t.Fatalf("%s: %d touches, Touched %d; not %d: %v", promise, len(got), touched, len(want), got)
	}
	for i, x := range want {
		if y := got[i]; y.Kind != x.Kind || y.At != x.At || !bytes.Equal(y.Bytes, x.Bytes) {
			t.Errorf("%s: touch %d: %v, not %v", promise, i, y, x)
		}
	}
}
