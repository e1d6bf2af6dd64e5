package wire_test

import (
	"slices"
	"strings"
	"testing"

	"oubliette/api"
	"oubliette/wire"
)

// notGood: texts that aren't good UTF-8.
func notGood() []string {
	return []string{
		"\xff", "\xfe", "\x80", "\xbf", // no rune's first byte
		"\xc0\x80", "\xc0\xaf", "\xc1\xbf", "\xe0\x80\x80", "\xe0\x9f\xbf", "\xf0\x80\x80\x80", "\xf0\x8f\xbf\xbf", // not the shortest
		"\xed\xa0\x80", "\xed\xaf\xbf", "\xed\xb0\x80", "\xed\xbf\xbf", // surrogates
		"\xf4\x90\x80\x80", "\xf5\x80\x80\x80", "\xf8\x88\x80\x80\x80", // above the greatest rune
		"\xc3", "\xe2\x82", "\xf0\x9f\x98", "\xe2\x82a", "\xc3\xc3\xa9", "é\xa9", // bytes missing, or one too many
	}
}

func TestNamesThatMayBe(t *testing.T) {
	for _, s := range []string{"a", " ", "~", "a.b", "...", "..a", ".a", "a.", ". .", "\\", ":", "\u0080", "é", "߿", "ࠀ", "\ud7ff", "\ue000", "\ufffd", "a\ufffdb", "\uffff", "\U00010000", "\U0010ffff",
		strings.Repeat("a", 31), strings.Repeat("a", 32), strings.Repeat("é", 16), strings.Repeat("\U0010ffff", 8), strings.Repeat("\ufffd", 10) + ".."} {
		if e := wire.Name(s); e != api.OK {
			t.Errorf("P1.3: %q: %v", s, e)
		}
	}
}

func TestNamesOfOneRune(t *testing.T) {
	for r := rune(0); r <= 0x10ffff; r++ {
		if r >= 0xd800 && r <= 0xdfff {
			continue
		}
		want := api.OK
		if r < 0x20 || r == '/' || r == 0x7f || r == '.' {
			want = api.Inval
		}
		if e := wire.Name(string(r)); e != want {
			t.Errorf("P1.3: %q: %v", string(r), e)
		}
	}
}

func TestNamesThatMayNotBe(t *testing.T) {
	for _, s := range append([]string{"", ".", "..", "/"}, notGood()...) {
		if e := wire.Name(s); e != api.Inval {
			t.Errorf("P1.3: %q: %v", s, e)
		}
	}
	for _, bad := range append([]string{"/", "\x00", "\n", "\x1f", "\x7f"}, notGood()...) {
		for _, s := range []string{bad + "a", "a" + bad, "." + bad, "é" + bad + "é", strings.Repeat("a", 31) + bad, strings.Repeat("a", 32) + bad, bad + strings.Repeat("a", 65535)} {
			if e := wire.Name(s); e != api.Inval {
				t.Errorf("P1.3: %q: %v", s, e)
			}
		}
	}
}

func TestNamesTooLong(t *testing.T) {
	for _, s := range []string{strings.Repeat("a", 33), strings.Repeat("é", 16) + "a", strings.Repeat("é", 17), strings.Repeat(".", 33), strings.Repeat("\U0010ffff", 8) + " ", strings.Repeat("a", 65536)} {
		if e := wire.Name(s); e != api.NameLong {
			t.Errorf("P1.3: %d bytes: %v", len(s), e)
		}
	}
}

func TestLess(t *testing.T) {
	// Each one is ahead of all that stand behind it.
	rising := []string{"", "\x00", "\x00\x00", "A", "a", "aa", "ab", "a\u0080", "aé", "b", "z", "\x7f", "\u0080", "é", "éa", "\ud7ff", "\ue000", "\ufffc", "\xff", "\xffa", "\ufffd\xff", "\ufffd\uffff", "\xc3\U00010000", "\uffff", "\U00010000", "\U0010ffff"}
	for i, a := range rising {
		for j, b := range rising {
			if wire.Less(a, b) != (i < j) {
				t.Errorf("P1.4: Less(%q, %q): %v", a, b, wire.Less(a, b))
			}
		}
	}
}

// TestLessOfBytesThatAreNoRune: each of them counts as FFFD, and FFFD itself is not less, nor greater.
func TestLessOfBytesThatAreNoRune(t *testing.T) {
	for _, same := range [][]string{{"\xff", "\ufffd", "\x80", "\xc3"}, {"\xe2\x82", "\ufffd\ufffd", "\xff\ufffd"}, {"\xed\xa0\x80", "\ufffd\ufffd\ufffd", "\xe0\x80\x80"}, {"\xe2\x82a", "\ufffd\xffa"}} {
		for _, a := range same {
			for _, b := range same {
				if wire.Less(a, b) {
					t.Errorf("P1.4: Less(%q, %q)", a, b)
				}
			}
		}
	}
}

// TestLessAsRunes: all texts of up to three of some bytes, against the library's runes.
func TestLessAsRunes(t *testing.T) {
	letters := []byte{0, 'a', 0x80, 0xbd, 0xbf, 0xc3, 0xef, 0xf0, 0xff}
	texts := []string{""}
	for from, n := 0, 0; n < 3; n++ {
		to := len(texts)
		for _, s := range texts[from:to] {
			for _, x := range letters {
				texts = append(texts, s+string([]byte{x}))
			}
		}
		from = to
	}
	texts = append(texts, notGood()...)
	texts = append(texts, "\ufffd", "\uffff", "\U00010000", "\U00010000\xff")
	for _, a := range texts {
		for _, b := range texts {
			if want := slices.Compare([]rune(a), []rune(b)) < 0; wire.Less(a, b) != want {
				t.Fatalf("P1.4: Less(%q, %q): %v", a, b, !want)
			}
		}
	}
}
