package dir_test

import (
	"fmt"
	"math"
	"slices"
	"strings"
	"testing"

	"oubliette/api"
	"oubliette/dir"
)

// told: Told word by word: again and again the first of the least cookie above what was told, as long as it has room.
func told(l []api.Entry, after uint32, room int) []api.Entry {
	var left, out []api.Entry
	for _, e := range l {
		if e.Cookie > after {
			left = append(left, e)
		}
	}
	for len(left) > 0 {
		least := 0
		for k, e := range left {
			if e.Cookie < left[least].Cookie {
				least = k
			}
		}
		e := left[least]
		if room < 24 || room-24 < len(e.Name) {
			break
		}
		room -= 24 + len(e.Name)
		out = append(out, e)
		left = append(left[:least], left[least+1:]...)
	}
	return out
}

func isTold(t *testing.T, l []api.Entry, after uint32, room int) {
	t.Helper()
	sameList(t, fmt.Sprintf("P14.3: Told(%v, %d, %d)", l, after, room), dir.Told(l, after, room), told(l, after, room))
}

// TestToldExamples: the chapter's own, and others that are written out.
func TestToldExamples(t *testing.T) {
	a, b := entry("a", 2), entry("b", 1)
	l := []api.Entry{a, b}
	sameList(t, "P14.3: the example", dir.Told(l, 0, 25), []api.Entry{b})
	for room, want := range map[int][]api.Entry{
		math.MinInt: nil, math.MinInt + 24: nil, -25: nil, -1: nil, 0: nil, 1: nil, 23: nil, 24: nil,
		25: {b}, 26: {b}, 49: {b}, 50: {b, a}, 51: {b, a}, 1000: {b, a}, math.MaxInt: {b, a},
	} {
		sameList(t, fmt.Sprint("P14.3: room ", room), dir.Told(l, 0, room), want)
	}
	for after, want := range map[uint32][]api.Entry{0: {b, a}, 1: {a}, 2: nil, 3: nil, math.MaxUint32: nil} {
		sameList(t, fmt.Sprint("P14.3: after ", after), dir.Told(l, after, 1000), want)
	}
	for _, none := range [][]api.Entry{nil, {}} {
		sameList(t, "P14.3: no entries", dir.Told(none, 0, 1000), nil)
	}
}

// TestToldCookies: behind cookies that are there, and such that aren't; the least and the greatest.
func TestToldCookies(t *testing.T) {
	cookies := []uint32{math.MaxUint32, 5, 1 << 31, 1, 10, 1<<31 - 1, 9, math.MaxUint32 - 1}
	var l []api.Entry
	for k, c := range cookies {
		l = append(l, entry(string(rune('a'+k)), c))
	}
	slices.Sort(cookies)
	for _, after := range []uint32{0, 1, 2, 4, 5, 6, 8, 9, 10, 11, 1<<31 - 2, 1<<31 - 1, 1 << 31, 1<<31 + 1, math.MaxUint32 - 2, math.MaxUint32 - 1, math.MaxUint32} {
		var want []uint32
		for _, c := range cookies {
			if c > after {
				want = append(want, c)
			}
		}
		var got []uint32
		for _, e := range dir.Told(l, after, 1000) {
			got = append(got, e.Cookie)
		}
		if !slices.Equal(got, want) {
			t.Fatalf("P14.3: after %d: %v, not %v", after, got, want)
		}
	}
	if got := dir.Told(l, math.MaxUint32, math.MaxInt); len(got) != 0 {
		t.Fatalf("P14.3: behind the greatest cookie: %v", got)
	}
}

// TestToldAlike: entries of one cookie come in the list's order; those of cookie 0 behind none.
func TestToldAlike(t *testing.T) {
	var l []api.Entry
	for k := range 60 {
		e := entry(fmt.Sprint(60-k), uint32(k*7%3))
		e.Ref.Ino, e.Kind = 1+k%5, 1+k%2
		l = append(l, e)
	}
	for _, after := range []uint32{0, 1, 2} {
		got := dir.Told(l, after, math.MaxInt)
		var want []api.Entry
		for c := after + 1; c <= 2; c++ {
			for _, e := range l {
				if e.Cookie == c {
					want = append(want, e)
				}
			}
		}
		sameList(t, fmt.Sprint("P14.3: cookies alike, after ", after), got, want)
	}
	for count := range 40 {
		one := append(l[:count:count], entry("z", 1))
		for k := range one {
			one[k].Cookie = 4
		}
		sameList(t, "P14.3: one cookie alone", dir.Told(one, 3, math.MaxInt), one)
	}
}

// TestToldRoom: to the byte, with names of all lengths, in bytes and not in runes; the first that has no room ends it.
func TestToldRoom(t *testing.T) {
	for _, name := range []string{"", "a", "é", "ࠀ", "\U0010ffff", "\xff", "ab", strings.Repeat("é", 16), strings.Repeat("a", 32), strings.Repeat("a", 33), strings.Repeat("a", 70000)} {
		e := entry(name, 1)
		takes := 24 + len(name)
		for _, room := range []int{math.MinInt, -takes, -1, 0, 1, takes - 1} {
			sameList(t, "P14.3: without room", dir.Told([]api.Entry{e}, 0, room), nil)
		}
		for _, room := range []int{takes, takes + 1, 2 * takes, math.MaxInt} {
			sameList(t, "P14.3: with room", dir.Told([]api.Entry{e}, 0, room), []api.Entry{e})
		}
	}
	long, short := entry(strings.Repeat("l", 32), 1), entry("s", 2)
	l := []api.Entry{short, long}
	for room := range 56 {
		sameList(t, "P14.3: the first has no room", dir.Told(l, 0, room), nil)
	}
	for room := 56; room < 81; room++ {
		sameList(t, "P14.3: the second has no room", dir.Told(l, 0, room), []api.Entry{long})
	}
	sameList(t, "P14.3: both have room", dir.Told(l, 0, 81), []api.Entry{long, short})
	l = named("a", strings.Repeat("b", 30), "c", "d")
	for room := range 200 {
		isTold(t, l, 0, room)
		isTold(t, l, 1, room)
		isTold(t, l, 2, room)
	}
}

// TestToldShort: all lists of up to four entries with few cookies and names of few lengths, behind each cookie, with many rooms.
func TestToldShort(t *testing.T) {
	lists := [][]api.Entry{nil}
	for from := 0; len(lists[from]) < 4; from++ {
		for cookie := range uint32(4) {
			for _, name := range []string{"", "xyz"} {
				l := slices.Clone(lists[from])
				e := entry(name, cookie)
				e.Ref.Serial = uint64(len(l)) // which one it is
				lists = append(lists, append(l, e))
			}
		}
	}
	for _, l := range lists {
		for after := range uint32(4) {
			for _, room := range []int{-1, 0, 23, 24, 26, 27, 47, 48, 50, 51, 53, 54, 75, 81, 108, 200} {
				isTold(t, l, after, room)
			}
		}
	}
}

// TestToldByChance: longer lists, of lists that may be, and of others.
func TestToldByChance(t *testing.T) {
	r := newRand(8)
	for turn := range 3000 {
		l := list(r, r.Intn(33))
		if turn%3 == 0 {
			l = append(l, l...)
			r.Shuffle(len(l), func(i, j int) { l[i], l[j] = l[j], l[i] })
		}
		after := uint32(0)
		if len(l) > 0 && r.Intn(2) == 0 {
			after = l[r.Intn(len(l))].Cookie - uint32(r.Intn(2))
		}
		isTold(t, l, after, r.Intn(2000))
		isTold(t, l, after, math.MaxInt)
		isTold(t, l, r.Uint32(), 1000)
	}
}

// TestToldInTurn: told piece by piece, each behind the last one's cookie, a list that may be is told whole.
func TestToldInTurn(t *testing.T) {
	r := newRand(81)
	for turn := range 500 {
		l := list(r, turn%33)
		room := 56 + r.Intn(300)
		var all []api.Entry
		after := uint32(0)
		for {
			piece := dir.Told(l, after, room)
			if len(piece) == 0 {
				break
			}
			all = append(all, piece...)
			after = piece[len(piece)-1].Cookie
		}
		sameList(t, "P14.3: piece by piece", all, told(l, 0, math.MaxInt))
		if len(all) != len(l) {
			t.Fatalf("P14.3: piece by piece: %d of %d entries", len(all), len(l))
		}
	}
}

// TestToldStays: the list is as it was, the room behind it, too, and shares no memory with what is told.
func TestToldStays(t *testing.T) {
	r := newRand(82)
	for count := range 33 {
		was := list(r, count)
		for _, room := range []int{0, 100, math.MaxInt} {
			l, asItWas := spare(was)
			got, again := dir.Told(l, 0, room), dir.Told(l, 0, room)
			if !asItWas() {
				t.Fatal("P14.3: Told changed the list")
			}
			scrubAll(got)
			if !asItWas() {
				t.Fatal("P14.3: what is told shares memory with the list")
			}
			scrub(l)
			sameList(t, "P14.3: Told, list and another answer written over", again, told(was, 0, room))
		}
	}
}
