package wire_test

import (
	"bytes"
	"math"
	"strings"
	"testing"

	"oubliette/api"
	"oubliette/wire"
)

// mustBe: whether a cursor has so many bytes left, and is bad or not.
func mustBe(t *testing.T, what string, c *wire.Cursor, left int, bad bool) {
	t.Helper()
	if c.Left() != left || c.Bad() != bad {
		t.Errorf("%s: %d left, bad %v; want %d, %v", what, c.Left(), c.Bad(), left, bad)
	}
}

// mustBeSpoilt: whether a cursor is bad, and stays so whatever is asked of it.
func mustBeSpoilt(t *testing.T, what string, c *wire.Cursor) {
	t.Helper()
	mustBe(t, what, c, 0, true)
	if n, s, b := c.Num(1), c.Text(), c.Take(1); n != 0 || s != "" || len(b) != 0 {
		t.Errorf("%s: a bad cursor: %d %q % x", what, n, s, b)
	}
	if b := c.Take(0); len(b) != 0 {
		t.Errorf("%s: a bad cursor: % x", what, b)
	}
	mustBe(t, what, c, 0, true)
}

func TestNumbersOfEachSize(t *testing.T) {
	b := []byte{1, 2, 3, 4, 5, 6, 7, 8, 9, 10, 11, 12, 13, 14, 15}
	c := wire.New(b)
	mustBe(t, "P1.2: new", c, 15, false)
	for _, r := range []struct {
		size int
		want uint64
		left int
	}{{8, 0x807060504030201, 7}, {4, 0xc0b0a09, 3}, {2, 0xe0d, 1}, {1, 0xf, 0}} {
		if v := c.Num(r.size); v != r.want {
			t.Errorf("P1.2: Num(%d): %x, want %x", r.size, v, r.want)
		}
		mustBe(t, "P1.2: a number", c, r.left, false)
	}
	for size, most := range greatest {
		c := wire.New(append(bytes.Repeat([]byte{255}, size), 1))
		if v := c.Num(size); v != most {
			t.Errorf("P1.2: Num(%d): %x, want %x", size, v, most)
		}
		mustBe(t, "P1.2: the greatest number", c, 1, false)
	}
}

func TestNumbersMissing(t *testing.T) {
	for size := range greatest {
		for have := range size {
			c := wire.New(bytes.Repeat([]byte{9}, have))
			if v := c.Num(size); v != 0 {
				t.Errorf("P1.2: Num(%d) of %d bytes: %x", size, have, v)
			}
			mustBeSpoilt(t, "P1.2: a number that isn't there whole", c)
		}
	}
}

func TestNumbersOfWrongSize(t *testing.T) {
	for _, size := range wrongSizes {
		c := wire.New(bytes.Repeat([]byte{9}, 100))
		if v := c.Num(size); v != 0 {
			t.Errorf("P1.2: Num(%d): %x", size, v)
		}
		mustBeSpoilt(t, "P1.2: a wrong size", c)
	}
}

func TestTextsTaken(t *testing.T) {
	for _, s := range []string{"", "a", "ab", "é", "\xff\xc0\x80", strings.Repeat("x", 256), strings.Repeat("y", 65535)} {
		b := append([]byte{byte(len(s)), byte(len(s) >> 8)}, s...)
		c := wire.New(append(b, 1, 2, 3))
		if got := c.Text(); got != s {
			t.Errorf("P1.2: Text: %d bytes, want %d", len(got), len(s))
		}
		mustBe(t, "P1.2: a text", c, 3, false)
	}
	c := wire.New([]byte{1, 0, 'a', 0, 0, 2, 0, 'b', 'c'})
	if x, y, z := c.Text(), c.Text(), c.Text(); x != "a" || y != "" || z != "bc" {
		t.Errorf("P1.2: %q %q %q", x, y, z)
	}
	mustBe(t, "P1.2: texts", c, 0, false)
}

func TestTextsMissing(t *testing.T) {
	for _, b := range [][]byte{nil, {3}, {1, 0}, {3, 0, 'a'}, {3, 0, 'a', 'b'}, {0, 1, 'a'}, {255, 255, 'a'}} {
		c := wire.New(b)
		if s := c.Text(); s != "" {
			t.Errorf("P1.2: Text of % x: %q", b, s)
		}
		mustBeSpoilt(t, "P1.2: a text that isn't there whole", c)
	}
}

func TestTake(t *testing.T) {
	c := wire.New([]byte{1, 2, 3, 4})
	if b := c.Take(0); len(b) != 0 {
		t.Errorf("P1.2: Take(0): % x", b)
	}
	mustBe(t, "P1.2: nothing taken", c, 4, false)
	if b := c.Take(3); !bytes.Equal(b, []byte{1, 2, 3}) {
		t.Errorf("P1.2: Take(3): % x", b)
	}
	mustBe(t, "P1.2: some taken", c, 1, false)
	if b := c.Take(1); !bytes.Equal(b, []byte{4}) {
		t.Errorf("P1.2: Take(1): % x", b)
	}
	mustBe(t, "P1.2: all taken", c, 0, false)
}

func TestTakeMissing(t *testing.T) {
	for _, n := range []int{5, 6, 1 << 40, math.MaxInt, -1, -2, -4, math.MinInt} {
		c := wire.New([]byte{1, 2, 3, 4})
		if b := c.Take(n); len(b) != 0 {
			t.Errorf("P1.2: Take(%d): % x", n, b)
		}
		mustBeSpoilt(t, "P1.2: bytes that aren't there", c)
	}
}

// TestEnd: at its end a cursor isn't bad, and answers what has no bytes; behind it, it is.
func TestEnd(t *testing.T) {
	asks := map[string]func(c *wire.Cursor) bool{
		"Num(1)":   func(c *wire.Cursor) bool { return c.Num(1) == 0 },
		"Num(8)":   func(c *wire.Cursor) bool { return c.Num(8) == 0 },
		"Text":     func(c *wire.Cursor) bool { return c.Text() == "" },
		"Take(1)":  func(c *wire.Cursor) bool { return len(c.Take(1)) == 0 },
		"Take(-1)": func(c *wire.Cursor) bool { return len(c.Take(-1)) == 0 },
	}
	for what, ask := range asks {
		for _, b := range [][]byte{nil, {}, {9}} {
			c := wire.New(b)
			c.Take(len(b))
			mustBe(t, "P1.2: at the end", c, 0, false)
			if b := c.Take(0); len(b) != 0 {
				t.Errorf("P1.2: Take(0) at the end: % x", b)
			}
			mustBe(t, "P1.2: nothing taken at the end", c, 0, false)
			if !ask(c) {
				t.Errorf("P1.2: %s behind the end", what)
			}
			mustBeSpoilt(t, "P1.2: behind the end: "+what, c)
		}
	}
}

// TestCursorKeepsNothing: the cursor has a copy, and so has who takes.
func TestCursorKeepsNothing(t *testing.T) {
	b := []byte{1, 2, 3, 4, 1, 0, 'a', 5, 6}
	c := wire.New(b)
	clear(b)
	first := c.Take(2)
	_ = append(first, 88, 88, 88)
	first[0], first[1] = 77, 77
	if v := c.Num(2); v != 0x403 {
		t.Errorf("P1.2: Num(2): %x", v)
	}
	if s := c.Text(); s != "a" {
		t.Errorf("P1.2: Text: %q", s)
	}
	last := c.Take(2)
	if !bytes.Equal(last, []byte{5, 6}) || !bytes.Equal(first, []byte{77, 77}) {
		t.Errorf("P1.2: % x, % x", first, last)
	}
}

func TestNoCursor(t *testing.T) {
	var c *wire.Cursor
	for range 2 {
		for _, size := range []int{1, 2, 4, 8, 0, 3, -1} {
			if v := c.Num(size); v != 0 {
				t.Errorf("P1.5: Num(%d): %d", size, v)
			}
		}
		if s := c.Text(); s != "" {
			t.Errorf("P1.5: Text: %q", s)
		}
		for _, n := range []int{0, 1, -1, math.MaxInt, math.MinInt} {
			if b := c.Take(n); len(b) != 0 {
				t.Errorf("P1.5: Take(%d): % x", n, b)
			}
		}
		mustBe(t, "P1.5", c, 0, true)
	}
}

// thing is something that is put and taken: a number of a size, a text (size 0), or bytes (size -1).
type thing struct {
	size int
	v    uint64
	s    string
}

func (x thing) put(t *testing.T, b []byte) []byte {
	t.Helper()
	var e api.Errno
	switch x.size {
	case -1:
		return append(b, x.s...)
	case 0:
		b, e = wire.Text(b, x.s)
	default:
		b, e = wire.Put(b, x.size, x.v)
	}
	if e != api.OK {
		t.Errorf("P1.6: put %v: %v", x, e)
	}
	return b
}

func (x thing) take(c *wire.Cursor) thing {
	switch x.size {
	case -1:
		return thing{-1, 0, string(c.Take(len(x.s)))}
	case 0:
		return thing{0, 0, c.Text()}
	}
	return thing{x.size, c.Num(x.size), ""}
}

// TestPutAndTaken: what is put is taken as it was, one behind the other.
func TestPutAndTaken(t *testing.T) {
	list := []thing{{0, 0, ""}, {-1, 0, ""}, {-1, 0, "\x00\xff"}, {0, 0, "a"}, {0, 0, "é\xff"}, {0, 0, strings.Repeat("q", 65535)}}
	for size, most := range greatest {
		list = append(list, thing{size, 0, ""}, thing{size, 1, ""}, thing{size, most / 3, ""}, thing{size, most, ""})
	}
	for i := range list {
		for j := range list {
			for k := range list {
				row := []thing{list[i], list[j], list[k]}
				var b []byte
				for _, x := range row {
					b = x.put(t, b)
				}
				c := wire.New(b)
				for _, x := range row {
					if got := x.take(c); got != x {
						t.Fatalf("P1.6: size %d: %x, %d bytes; want %x, %d bytes", x.size, got.v, len(got.s), x.v, len(x.s))
					}
				}
				mustBe(t, "P1.6: all taken", c, 0, false)
			}
		}
	}
}

// TestOfAnyBytesABeginning: what is taken, put again, is a beginning of the bytes, and what is left is the rest.
func TestOfAnyBytesABeginning(t *testing.T) {
	kinds := []thing{{1, 0, ""}, {2, 0, ""}, {4, 0, ""}, {8, 0, ""}, {0, 0, ""}, {-1, 0, ""}, {-1, 0, "x"}, {-1, 0, "xyz"}}
	for n := range 4 * 4 * 4 * 4 * 4 * 4 {
		var b []byte
		for rest := n; rest > 0; rest /= 4 {
			b = append(b, byte(rest%4))
		}
		for i := range kinds {
			for j := range kinds {
				c := wire.New(b)
				var begin []byte
				for _, k := range []thing{kinds[i], kinds[j]} {
					x := k.take(c)
					if c.Bad() {
						break
					}
					begin = x.put(t, begin)
					if c.Left() != len(b)-len(begin) {
						t.Fatalf("P1.6: % x: %d left behind % x", b, c.Left(), begin)
					}
				}
				if !c.Bad() {
					begin = append(begin, c.Take(c.Left())...)
					mustBe(t, "P1.6: the rest", c, 0, false)
					if !bytes.Equal(begin, b) {
						t.Fatalf("P1.6: % x taken of % x", begin, b)
					}
				} else if !bytes.HasPrefix(b, begin) || c.Left() != 0 {
					t.Fatalf("P1.6: % x taken of % x, %d left", begin, b, c.Left())
				}
			}
		}
	}
}
