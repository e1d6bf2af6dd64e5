// Package wire is layer 1: numbers and texts as bytes, and names. See shared/doc/01-wire.md.
package wire

import (
	"unicode/utf8"

	"oubliette/api"
)

// textSize is the size of the number ahead of a text's bytes.
const textSize = 2

// width: how many bits a number of a size has; 0, if there is no such size.
func width(size int) int {
	bits := 0
	switch size {
	case 8:
		bits += 32
		fallthrough
	case 4:
		bits += 16
		fallthrough
	case 2:
		bits += 8
		fallthrough
	case 1:
		bits += 8
	}
	return bits
}

// room: a copy of bytes, with room for more behind them; what was handed in may have spare room that is its owner's.
func room(b []byte, more int) []byte {
	return append(make([]byte, 0, len(b)+more), b...)
}

// number: a number of a size that there is, behind bytes that are this package's own.
func number(b []byte, size int, v uint64) []byte {
	for i := range size {
		b = append(b, byte(v>>(8*i)))
	}
	return b
}

// Put: a number behind bytes. ErrArg, ErrLong.
func Put(b []byte, size int, v uint64) ([]byte, api.Errno) {
	bits := width(size)
	if bits == 0 {
		return nil, api.ErrArg
	}
	if v>>bits != 0 {
		return nil, api.ErrLong
	}
	return number(room(b, size), size, v), api.OK
}

// Text: a text behind bytes. ErrLong.
func Text(b []byte, s string) ([]byte, api.Errno) {
	if len(s) > api.MaxText {
		return nil, api.ErrLong
	}
	out := number(room(b, textSize+len(s)), textSize, uint64(len(s)))
	return append(out, s...), api.OK
}

// Cursor goes through bytes.
type Cursor struct {
	rest []byte
	bad  bool
}

// New makes a cursor.
func New(b []byte) *Cursor {
	return &Cursor{rest: room(b, 0)}
}

// spoil: the cursor is bad, and nothing is left.
func (c *Cursor) spoil() {
	if c != nil {
		c.rest, c.bad = nil, true
	}
}

// next: the next bytes, which are still the cursor's own; none, if they aren't there whole.
func (c *Cursor) next(n int) []byte {
	if n < 0 || n > c.Left() {
		c.spoil()
		return nil
	}
	if n == 0 {
		return nil
	}
	b := c.rest[:n]
	c.rest = c.rest[n:]
	return b
}

// Take: the next bytes.
func (c *Cursor) Take(n int) []byte {
	return append([]byte(nil), c.next(n)...)
}

// Num: the next number.
func (c *Cursor) Num(size int) uint64 {
	if width(size) == 0 {
		c.spoil()
		return 0
	}
	var v uint64
	for i, x := range c.next(size) {
		v |= uint64(x) << (8 * i)
	}
	return v
}

// Text: the next text.
func (c *Cursor) Text() string {
	n := c.Num(textSize)
	return string(c.next(int(n)))
}

// Left: how many bytes are left.
func (c *Cursor) Left() int {
	if c == nil {
		return 0
	}
	return len(c.rest)
}

// Bad: whether bytes were missing.
func (c *Cursor) Bad() bool {
	return c == nil || c.bad
}

// mayBe: whether a rune may be in a name.
func mayBe(r rune) bool {
	return r >= 0x20 && r != '/' && r != 0x7f
}

// Name: whether a name may be. Inval, NameLong.
func Name(s string) api.Errno {
	// Asked ahead of the range, which tells FFFD for bytes that are no rune as for FFFD itself, and that one may be.
	if s == "" || s == "." || s == ".." || !utf8.ValidString(s) {
		return api.Inval
	}
	for _, r := range s {
		if !mayBe(r) {
			return api.Inval
		}
	}
	if len(s) > api.MaxName {
		return api.NameLong
	}
	return api.OK
}

// Less: whether a text comes ahead of another one.
func Less(a, b string) bool {
	// Not by the bytes: those that are no good rune count as FFFD, which lies below the runes of four bytes.
	for _, r := range a {
		if b == "" {
			return false
		}
		other, n := utf8.DecodeRuneInString(b)
		if r != other {
			return r < other
		}
		b = b[n:]
	}
	return b != ""
}
