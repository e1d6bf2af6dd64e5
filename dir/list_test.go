package dir_test

import (
	"fmt"
	"slices"
	"strings"
	"testing"

	"oubliette/api"
	"oubliette/dir"
	"oubliette/wire"
)

// finds: Find by a plain walk through the list.
func finds(l []api.Entry, name string) (api.Entry, bool) {
	for _, e := range l {
		if e.Name == name {
			return e, true
		}
	}
	return api.Entry{}, false
}

// without: Without likewise.
func without(l []api.Entry, name string) []api.Entry {
	var out []api.Entry
	for _, e := range l {
		if e.Name != name {
			out = append(out, e)
		}
	}
	return out
}

// with: With likewise, of a list whose names rise.
func with(l []api.Entry, e api.Entry) []api.Entry {
	out := without(l, e.Name)
	at := 0
	for at < len(out) && wire.Less(out[at].Name, e.Name) {
		at++
	}
	return slices.Insert(out, at, e)
}

// isFound: Find answers as it should.
func isFound(t *testing.T, l []api.Entry, name string) {
	t.Helper()
	want, there := finds(l, name)
	if got, ok := dir.Find(l, name); got != want || ok != there {
		t.Fatalf("P14.2: Find(%v, %q): %v, %v; not %v, %v", l, name, got, ok, want, there)
	}
}

// isWithout: likewise Without; and isWith: With.
func isWithout(t *testing.T, l []api.Entry, name string) {
	t.Helper()
	sameList(t, fmt.Sprintf("P14.2: Without(%v, %q)", l, name), dir.Without(l, name), without(l, name))
}

func isWith(t *testing.T, l []api.Entry, e api.Entry) {
	t.Helper()
	sameList(t, fmt.Sprintf("P14.2: With(%v, %v)", l, e), dir.With(l, e), with(l, e))
}

// TestListExamples: calls whose answers are written out.
func TestListExamples(t *testing.T) {
	b, d, f := entry("b", 7), entry("d", 3), entry("f", 5)
	l := []api.Entry{b, d, f}
	for _, e := range l {
		if got, ok := dir.Find(l, e.Name); got != e || !ok {
			t.Fatalf("P14.2: Find %s: %v, %v", e.Name, got, ok)
		}
	}
	for _, name := range []string{"", "a", "c", "e", "g", "bb", "B"} {
		if got, ok := dir.Find(l, name); got != (api.Entry{}) || ok {
			t.Fatalf("P14.2: Find %q: %v, %v", name, got, ok)
		}
		sameList(t, "P14.2: Without a name that isn't there", dir.Without(l, name), l)
	}
	sameList(t, "P14.2: Without the first", dir.Without(l, "b"), []api.Entry{d, f})
	sameList(t, "P14.2: Without a middle one", dir.Without(l, "d"), []api.Entry{b, f})
	sameList(t, "P14.2: Without the last", dir.Without(l, "f"), []api.Entry{b, d})
	sameList(t, "P14.2: Without the only one", dir.Without([]api.Entry{b}, "b"), nil)
	a, c, g := entry("a", 9), entry("c", 9), entry("g", 9)
	sameList(t, "P14.2: With, ahead of all", dir.With(l, a), []api.Entry{a, b, d, f})
	sameList(t, "P14.2: With, between two", dir.With(l, c), []api.Entry{b, c, d, f})
	sameList(t, "P14.2: With, behind all", dir.With(l, g), []api.Entry{b, d, f, g})
	for k, name := range []string{"b", "d", "f"} {
		other := entry(name, 50)
		sameList(t, "P14.2: With a name that is there", dir.With(l, other), changed(l, k, func(e *api.Entry) { *e = other }))
	}
	for _, none := range [][]api.Entry{nil, {}} {
		isFound(t, none, "a")
		isFound(t, none, "")
		sameList(t, "P14.2: Without of no entries", dir.Without(none, "a"), nil)
		sameList(t, "P14.2: With of no entries", dir.With(none, a), []api.Entry{a})
	}
}

// TestTwice: where a name stands twice, Find tells the first one, and Without and With take all.
func TestTwice(t *testing.T) {
	a, b, c := entry("a", 1), entry("a", 2), entry("b", 3)
	for _, l := range [][]api.Entry{{a, b}, {a, b, c}, {c, a, b}, {a, c, b}, {c, a, c, b, c}} {
		if got, ok := dir.Find(l, "a"); got != a || !ok {
			t.Fatalf("P14.2: Find of a name that stands twice: %v, %v", got, ok)
		}
		isFound(t, l, "b")
		isWithout(t, l, "a")
		isWithout(t, l, "b")
	}
	sameList(t, "P14.2: Without of a name that stands twice", dir.Without([]api.Entry{c, a, c, b, c}, "a"), []api.Entry{c, c, c})
	e := entry("a", 9)
	sameList(t, "P14.2: With of a name that stands twice", dir.With([]api.Entry{a, b, c}, e), []api.Entry{e, c})
}

// TestShortLists: Find and Without of all lists of up to four entries with few names, in any order.
func TestShortLists(t *testing.T) {
	all := []string{"", "a", "b", "ab"}
	lists := [][]api.Entry{nil}
	for from := 0; len(lists[from]) < 4; from++ {
		for _, name := range all {
			l := slices.Clone(lists[from])
			lists = append(lists, append(l, entry(name, uint32(len(l)+1))))
		}
	}
	for _, l := range lists {
		for _, name := range append(all, "c", "A", "aa") {
			isFound(t, l, name)
			isWithout(t, l, name)
		}
	}
}

// TestEachPlace: of rising lists of all lengths each entry, and each place beside and between them.
func TestEachPlace(t *testing.T) {
	for _, count := range []int{0, 1, 2, 3, 4, 5, 6, 7, 8, 15, 16, 17, 31, 32, 33, 100} {
		var between []string
		for k := range 2*count + 1 {
			between = append(between, "m"+string(rune(0x1000+k)))
		}
		var l []api.Entry
		for k := range count {
			l = append(l, entry(between[2*k+1], uint32(3*count-k)))
		}
		for k, name := range between {
			isFound(t, l, name)
			isWithout(t, l, name)
			isWith(t, l, entry(name, 500))
			at := slices.IndexFunc(dir.With(l, entry(name, 500)), func(e api.Entry) bool { return e.Name == name })
			if at != k/2 {
				t.Fatalf("P14.2: With of %d entries: the name is at %d, not %d", count, at, k/2)
			}
		}
	}
}

// TestOrderOfRunes: names come by their runes, the shorter one first, not by their lengths, nor by kinds of letters.
func TestOrderOfRunes(t *testing.T) {
	rising := []string{"", " ", "-", "A", "AA", "B", "Z", "a", "a-", "aa", "aaa", "ab", "aé", "b", "z", "zz", "\u0080", "é", "éa", "\ud7ff", "\ue000", "\ufffd", "\uffff", "\U00010000", "\U0010ffff", "\U0010ffff\U0010ffff"}
	r := newRand(3)
	for range 300 {
		var l, want []api.Entry
		for k, name := range rising {
			want = append(want, entry(name, uint32(k+1)))
		}
		for _, k := range r.Perm(len(want)) {
			isWith(t, l, want[k])
			l = dir.With(l, want[k])
		}
		sameList(t, "P14.2: With, one by one", l, want)
		for _, k := range r.Perm(len(want)) {
			isFound(t, l, rising[k])
			isWithout(t, l, rising[k])
			l = dir.Without(l, rising[k])
			isFound(t, l, rising[k])
		}
		sameList(t, "P14.2: Without, one by one", l, nil)
	}
}

// TestNamesAreBytes: of names that aren't good UTF-8 the bytes say which one it is; the place is ahead of the first that doesn't come ahead.
func TestNamesAreBytes(t *testing.T) {
	a, x, z := entry("a", 1), entry("\xff", 2), entry("\uffff", 3)
	l := []api.Entry{a, x, z}
	for _, name := range []string{"a", "\xff", "\xfe", "\ufffd", "\uffff", "\xc3", "\xff\xff"} {
		isFound(t, l, name)
		isWithout(t, l, name)
		isWith(t, l, entry(name, 9))
	}
	e := entry("\ufffd", 9)
	sameList(t, "P14.2: With", dir.With(l, e), []api.Entry{a, e, x, z})
	long := strings.Repeat("m", 70000)
	l = []api.Entry{a, entry(long, 2)}
	isFound(t, l, long)
	isFound(t, l, long[1:])
	isWith(t, l, entry(long+"m", 9))
	isWith(t, l, entry(long[1:], 9))
}

// TestAnyEntries: entries that may not be are entries all the same, told as they are.
func TestAnyEntries(t *testing.T) {
	l := []api.Entry{{}, {Name: "a", Kind: -1}, {Name: "b", Ref: api.Ref{Ino: -5, Serial: 0}, Kind: 9}, {Name: "c/", Cookie: 1}}
	for _, name := range []string{"", "a", "b", "c/", "c", "d"} {
		isFound(t, l, name)
		isWithout(t, l, name)
		isWith(t, l, api.Entry{Name: name, Kind: 77})
	}
	if got, ok := dir.Find(l, ""); got != (api.Entry{}) || !ok {
		t.Fatalf("P14.2: Find: %v, %v", got, ok)
	}
}

// TestListsByChance: scripts of With and Without, held against plain walks, and Find of all names.
func TestListsByChance(t *testing.T) {
	r := newRand(22)
	for range 200 {
		var pool []string
		for range 1 + r.Intn(40) {
			pool = append(pool, chance(r))
		}
		var l []api.Entry
		for turn := range 80 {
			name := pool[r.Intn(len(pool))]
			if r.Intn(3) > 0 {
				e := entry(name, uint32(turn+1))
				isWith(t, l, e)
				l = with(l, e)
			} else {
				isWithout(t, l, name)
				l = without(l, name)
			}
			isFound(t, l, pool[r.Intn(len(pool))])
		}
	}
}

// TestListsStay: what was handed in is as it was, the room behind it, too, and shares no memory with what is answered.
func TestListsStay(t *testing.T) {
	all := named("b", "d", "f", "h", "j")
	for count := range 6 {
		for _, name := range []string{"a", "b", "c", "d", "e", "f", "g", "h", "i", "j", "k"} {
			l, asItWas := spare(all[:count])
			e := entry(name, 50)
			less, more := dir.Without(l, name), dir.With(l, e)
			if _, ok := dir.Find(l, name); ok != slices.ContainsFunc(all[:count], func(e api.Entry) bool { return e.Name == name }) || !asItWas() {
				t.Fatal("P14.2: the list was changed")
			}
			lessAgain, moreAgain := dir.Without(l, name), dir.With(l, e)
			scrubAll(less)
			scrubAll(more)
			if !asItWas() {
				t.Fatal("P14.2: an answer shares memory with the list")
			}
			sameList(t, "P14.2: Without, another answer written over", lessAgain, without(l, name))
			sameList(t, "P14.2: With, another answer written over", moreAgain, with(l, e))
			scrub(l)
			sameList(t, "P14.2: Without, the list written over", lessAgain, without(all[:count], name))
			sameList(t, "P14.2: With, the list written over", moreAgain, with(all[:count], e))
		}
	}
}

// TestNoOrder: of lists whose names don't rise With ends, too.
func TestNoOrder(t *testing.T) {
	r := newRand(9)
	for range 2000 {
		var l []api.Entry
		for k := range r.Intn(40) {
			l = append(l, entry(chance(r), uint32(k)))
		}
		dir.With(l, entry(chance(r), 50))
	}
}
