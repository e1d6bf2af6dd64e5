package dir_test

import (
	"bytes"
	"fmt"
	"slices"
	"strings"
	"testing"

	"oubliette/api"
	"oubliette/dir"
)

// block: a whole block whose every byte is that.
func block(c byte) []byte {
	return bytes.Repeat([]byte{c}, api.BlockLen)
}

// set: a copy of blocks, in which a byte of one is another one.
func set(blocks [][]byte, k, at int, x byte) [][]byte {
	out := copied(blocks)
	out[k][at] = x
	return out
}

// TestParseLengths: blocks that aren't 256 bytes long.
func TestParseLengths(t *testing.T) {
	for _, count := range []int{1, 5, 6, 32} {
		blocks := leavesOf(named(names(count, 32)...))
		for k := range blocks {
			for n := range 256 {
				short := copied(blocks)
				short[k] = short[k][:n]
				noList(t, "a short block", short)
			}
			for _, more := range []int{1, 2, 255, 256, 65536} {
				long := copied(blocks)
				long[k] = append(long[k], make([]byte, more)...)
				noList(t, "a long block", long)
			}
			none := copied(blocks)
			none[k] = nil
			noList(t, "a block of no bytes", none)
			noList(t, "a block of no bytes more", slices.Insert(copied(blocks), k, []byte{}))
		}
	}
	noList(t, "no bytes", [][]byte{nil})
	noList(t, "no bytes", [][]byte{{}})
	noList(t, "no bytes", make([][]byte, 33))
}

// TestParseNoEntries: a leaf that counts none, alone, ahead of others, between and behind them.
func TestParseNoEntries(t *testing.T) {
	noList(t, "a leaf without entries", [][]byte{block(0)})
	noList(t, "leaves without entries", [][]byte{block(0), block(0)})
	for _, count := range []int{1, 5, 6, 32} {
		blocks := leavesOf(named(names(count, 32)...))
		for k := range len(blocks) + 1 {
			noList(t, "a leaf without entries", slices.Insert(copied(blocks), k, block(0)))
		}
	}
	noList(t, "a leaf that counts none of its entries", [][]byte{leafOf(0, named("a")...)})
}

// TestParseCounts: a leaf that counts more entries than there are, or fewer.
func TestParseCounts(t *testing.T) {
	for _, count := range []int{1, 2, 5, 6, 15, 16, 31, 32} {
		for _, length := range []int{1, 2, 7, 32} {
			blocks := leavesOf(named(names(count, length)...))
			for k := range blocks {
				for x := range 256 {
					if b := byte(x); b != blocks[k][0] {
						noList(t, "another count", set(blocks, k, 0, b))
					}
				}
			}
		}
	}
}

// TestParseBehind: a byte other than 0 behind the last entry.
func TestParseBehind(t *testing.T) {
	for _, l := range [][]api.Entry{named("a"), named(names(5, 32)...), named(names(14, 1)...), named(names(8, 32)...)} {
		blocks := leavesOf(l)
		for k := range blocks {
			end := 256 - len(blocks[k]) + len(bytes.TrimRight(blocks[k], "\x00"))
			for at := end; at < 256; at++ {
				for _, x := range []byte{1, 2, 128, 255} {
					noList(t, "a byte behind the last entry", set(blocks, k, at, x))
				}
			}
		}
	}
}

// TestParseRoom: a leaf that has room for the next one's first entry.
func TestParseRoom(t *testing.T) {
	for _, length := range []int{1, 2, 15, 31, 32} {
		fit := 255 / (16 + length)
		for count := 2; count <= 32; count++ {
			l := named(names(count, length)...)
			for first := 1; first < min(fit, count); first++ {
				noList(t, "a leaf with room", append([][]byte{leafOf(first, l[:first]...)}, leavesOf(l[first:])...))
			}
			whole := (count - 1) / fit * fit
			for last := whole + 1; last < count; last++ {
				noList(t, "a leaf with room", append(leavesOf(l[:last]), leavesOf(l[last:])...))
			}
		}
	}
	// The second one is too long by a byte; without that it has room.
	l := append(named(names(14, 1)...), entry("zz", 90))
	parses(t, [][]byte{leafOf(14, l[:14]...), leafOf(1, l[14])}, l)
	l[14].Name = "z"
	noList(t, "a leaf with room to the byte", [][]byte{leafOf(14, l[:14]...), leafOf(1, l[14])})
	parses(t, [][]byte{leafOf(15, l...)}, l)
}

// TestParseOrder: leaves in another order, one twice, one missing.
func TestParseOrder(t *testing.T) {
	for _, count := range []int{6, 11, 12, 16, 32} {
		l := named(names(count, 32)...)
		blocks := leavesOf(l)
		parses(t, blocks, l)
		for i := range blocks {
			for j := range i {
				other := copied(blocks)
				other[i], other[j] = other[j], other[i]
				noList(t, "leaves in another order", other)
				noList(t, "a leaf that stands twice", append(copied(blocks[:i+1]), copied(blocks[j:])...))
			}
		}
		// Whole leaves that are left out leave another list's.
		for k := range blocks {
			rest := append(slices.Clone(l[:5*k]), l[min(5*k+5, count):]...)
			parses(t, append(copied(blocks[:k]), blocks[k+1:]...), rest)
		}
		other := copied(blocks)
		slices.Reverse(other)
		noList(t, "leaves in another order", other)
	}
}

// others: what a byte may be turned to: all other values, or, of longer lists, those in which one bit is another one, and a few more.
func others(b byte, all bool) []byte {
	out := []byte{b + 1, b - 1, ^b}
	for bit := range 8 {
		out = append(out, b^1<<bit)
	}
	if all {
		for x := range 256 {
			out = append(out, byte(x))
		}
	}
	return slices.DeleteFunc(out, func(x byte) bool { return x == b })
}

// TestParseEachByte: each byte of a list's leaves turned: it is the list that the bytes tell place by place, or none.
func TestParseEachByte(t *testing.T) {
	for k, l := range [][]api.Entry{named("a"), named("é", "߿", "ࠀ"), named(names(15, 1)...), named(names(5, 32)...), named(names(7, 32)...), list(newRand(1), 32), list(newRand(2), 20)} {
		t.Run(fmt.Sprint(k), func(t *testing.T) {
			t.Parallel()
			blocks := leavesOf(l)
			for k := range blocks {
				for at, b := range blocks[k] {
					for _, x := range others(b, len(blocks) == 1) {
						turned := set(blocks, k, at, x)
						if want, ok := listOf(turned); ok {
							parses(t, turned, want)
						} else {
							noList(t, "a byte turned", turned)
						}
					}
				}
			}
		})
	}
}

// TestParseWrongEntries: leaves of lists that may not be, where their bytes can tell such lists.
func TestParseWrongEntries(t *testing.T) {
	for _, count := range []int{1, 2, 6, 32} {
		l := named(names(count, 4)...)
		for at := range l {
			for _, w := range wrongs() {
				m := changed(l, at, w.do)
				if e := m[at]; e.Kind == int(byte(e.Kind)) && e.Ref.Ino == int(byte(e.Ref.Ino)) && len(bytesOf(e)) < 256 {
					noList(t, w.why, leavesOf(m))
				}
			}
			for other := range l {
				if other == at {
					continue
				}
				noList(t, "a name that stands twice", leavesOf(changed(l, at, func(e *api.Entry) { e.Name = l[other].Name })))
				noList(t, "two cookies alike", leavesOf(changed(l, at, func(e *api.Entry) { e.Cookie = l[other].Cookie })))
			}
		}
	}
	noList(t, "names that don't rise", leavesOf(named("b", "a")))
	noList(t, "names that don't rise", leavesOf(named("aa", "a")))
	noList(t, "a long name", leavesOf(named(strings.Repeat("a", 33))))
	parses(t, leavesOf(named(strings.Repeat("a", 32))), named(strings.Repeat("a", 32)))
}

// TestParseLongTexts: an entry whose name's bytes aren't there whole, or end where the block does.
func TestParseLongTexts(t *testing.T) {
	b := leafOf(1, named("a")...)
	for n := 2; n < 65536; n++ {
		b[15], b[16] = byte(n), byte(n>>8)
		noList(t, "a name of other bytes", [][]byte{b})
	}
	for n := 2; n <= 239; n++ {
		b = append(leafOf(1, named("a")...)[:17], bytes.Repeat([]byte{'x'}, 239)...)
		b[15] = byte(n)
		noList(t, "a name with bytes behind it", [][]byte{b})
		clear(b[17+n:])
		if n <= 32 {
			parses(t, [][]byte{b}, []api.Entry{entry(strings.Repeat("x", n), 1)})
		} else {
			noList(t, "a long name", [][]byte{b})
		}
	}
}

// TestParseByChance: any blocks: what they tell place by place, or none.
func TestParseByChance(t *testing.T) {
	r := newRand(41)
	good := 0
	for range 20000 {
		blocks := leavesOf(list(r, r.Intn(33)))
		for range r.Intn(3) {
			switch at := r.Intn(len(blocks) + 1); r.Intn(4) {
			case 0:
				b := make([]byte, 256)
				r.Read(b)
				blocks = slices.Insert(blocks, at, b)
			case 1:
				blocks = append(blocks[:at], leavesOf(list(r, r.Intn(4)))...)
			case 2:
				blocks = blocks[at:]
			default:
				if at < len(blocks) {
					blocks[at][r.Intn(256)] = byte(r.Intn(256))
				}
			}
		}
		if want, ok := listOf(blocks); ok {
			good++
			parses(t, blocks, want)
		} else {
			noList(t, "by chance", blocks)
		}
	}
	if good < 1000 {
		t.Fatalf("only %d lists", good)
	}
}

// TestParseIsNew: blocks stay as they were, the room behind them too; the list shares no memory with them, nor with another answer.
func TestParseIsNew(t *testing.T) {
	for _, count := range []int{1, 5, 6, 32} {
		l := named(names(count, 32)...)
		var blocks, room [][]byte
		for _, b := range leavesOf(l) {
			all := append(b, block(0xdd)...)
			room = append(room, all)
			blocks = append(blocks, all[:256])
		}
		was := copied(room)
		got, _ := dir.Parse(blocks)
		other, _ := dir.Parse(blocks)
		if !sameBlocks(room, was) {
			t.Fatal("P14.1: Parse changed the blocks")
		}
		for _, b := range room {
			clear(b)
		}
		sameList(t, "P14.1: Parse, its blocks written over", got, l)
		scrubAll(got)
		sameList(t, "P14.1: Parse, another answer written over", other, l)
		noList(t, "a wrong byte", set(was, 0, 0, 0))
	}
}
