package chars

import (
	"slices"
	"strings"
	"testing"
	"unicode/utf8"

	"cleave/kinds"
)

// wellFormed is table 3-7: the bytes that may stand at each place of a sequence.
var wellFormed = [][][2]byte{
	{{0x00, 0x7F}},
	{{0xC2, 0xDF}, {0x80, 0xBF}},
	{{0xE0, 0xE0}, {0xA0, 0xBF}, {0x80, 0xBF}},
	{{0xE1, 0xEC}, {0x80, 0xBF}, {0x80, 0xBF}},
	{{0xED, 0xED}, {0x80, 0x9F}, {0x80, 0xBF}},
	{{0xEE, 0xEF}, {0x80, 0xBF}, {0x80, 0xBF}},
	{{0xF0, 0xF0}, {0x90, 0xBF}, {0x80, 0xBF}, {0x80, 0xBF}},
	{{0xF1, 0xF3}, {0x80, 0xBF}, {0x80, 0xBF}, {0x80, 0xBF}},
	{{0xF4, 0xF4}, {0x80, 0x8F}, {0x80, 0xBF}, {0x80, 0xBF}},
}

// secondFirst is the first character by the table's rows: its size, and whether it is a good one.
func secondFirst(text string) (int, bool) {
	longest := 1
	for _, row := range wellFormed {
		n := 0
		for n < len(row) && n < len(text) && row[n][0] <= text[n] && text[n] <= row[n][1] {
			n++
		}
		if n == len(row) {
			return n, true
		}
		longest = max(longest, n)
	}
	return longest, false
}

func checkFirst(t *testing.T, text string) {
	t.Helper()
	kind, size := first(text, &kinds.Table{})
	wantSize, good := secondFirst(text)
	if size != wantSize || (kind == kinds.Other) != good || (kind == kinds.Bad) == good {
		t.Fatalf("first(%q) = %d, %d bytes; want good %v, %d bytes", text, kind, size, good, wantSize)
	}
}

// Bytes of each sort of the table, and on both sides of each of its bounds.
func edges() []byte {
	return []byte{0x00, 0x41, 0x7F, 0x80, 0x8F, 0x90, 0x9F, 0xA0, 0xBF, 0xC0, 0xC1, 0xC2, 0xDF, 0xE0, 0xE1, 0xEC, 0xED, 0xEE, 0xEF, 0xF0, 0xF1, 0xF3, 0xF4, 0xF5, 0xFF}
}

func TestCharactersAreThoseOfTheTable(t *testing.T) {
	for a := range 0x100 {
		checkFirst(t, string([]byte{byte(a)}))
		for b := range 0x100 {
			checkFirst(t, string([]byte{byte(a), byte(b)}))
			for _, c := range edges() {
				checkFirst(t, string([]byte{byte(a), byte(b), c}))
			}
		}
	}
	for _, a := range edges() {
		for _, b := range edges() {
			for _, c := range edges() {
				for _, d := range edges() {
					checkFirst(t, string([]byte{a, b, c, d}))
				}
			}
		}
	}
}

// secondPending tells by the table's rows whether a text is the beginning of a character, and no more.
func secondPending(text string) bool {
	for _, row := range wellFormed {
		n := 0
		for n < len(row) && n < len(text) && row[n][0] <= text[n] && text[n] <= row[n][1] {
			n++
		}
		if n == len(text) && n < len(row) {
			return true
		}
	}
	return false
}

func checkNext(t *testing.T, text string) {
	t.Helper()
	// The room behind the text is no part of it.
	b := []byte(text + "\x80\x80\x80")[:len(text)]
	kind, size := Next(b, &kinds.Table{})
	if secondPending(text) {
		if kind != 0 || size != 0 {
			t.Fatalf("Next(%q) = %d, %d bytes, but it is not known yet", text, kind, size)
		}
		return
	}
	wantKind, wantSize := first(text, &kinds.Table{})
	if kind != wantKind || size != wantSize {
		t.Fatalf("Next(%q) = %d, %d bytes; want %d, %d bytes", text, kind, size, wantKind, wantSize)
	}
}

func TestACharacterIsKnownAsSoonAsItCanBe(t *testing.T) {
	if kind, size := Next(nil, &kinds.Table{}); kind != 0 || size != 0 {
		t.Errorf("no bytes are known to be %d, of %d bytes", kind, size)
	}
	for a := range 0x100 {
		checkNext(t, string([]byte{byte(a)}))
		for b := range 0x100 {
			checkNext(t, string([]byte{byte(a), byte(b)}))
		}
	}
	for _, a := range edges() {
		for _, b := range edges() {
			for _, c := range edges() {
				checkNext(t, string([]byte{a, b, c}))
				for _, d := range edges() {
					checkNext(t, string([]byte{a, b, c, d}))
					checkNext(t, string([]byte{a, b, c, d, 0x80}))
				}
			}
		}
	}
}

// Each code point is looked for in the table by its own number.
func TestCodePointsAreTheirOwn(t *testing.T) {
	for _, code := range []rune{0, 'a', 0x7F, 0x80, 0xE9, 0x7FF, 0x800, 0xD7FF, 0xE000, utf8.RuneError, 0xFFFF, 0x10000, 0x1F600, utf8.MaxRune} {
		var table kinds.Table
		table.Add(kinds.Span{First: code, Last: code}, 3)
		if kind, size := first(string(code)+"x", &table); kind != 3 || size != len(string(code)) {
			t.Errorf("the character %X is of kind %d and has %d bytes", code, kind, size)
		}
		if kind, size := Next([]byte(string(code)), &table); kind != 3 || size != len(string(code)) {
			t.Errorf("the next character %X is of kind %d and has %d bytes", code, kind, size)
		}
	}
}

func TestReadGoesThroughTheWholeText(t *testing.T) {
	var table kinds.Table
	table.Add(kinds.Span{First: 'a', Last: 'z'}, 0)
	table.Add(kinds.Span{First: 0x1F600, Last: 0x1F64F}, 1)
	row := Read("a\xf0\x9f\x98\x80\xf0\x9f\x98é\xed\xa0\uFFFD\xe2", &table)
	o, b := kinds.Other, kinds.Bad
	if want := []kinds.Kind{0, 1, b, o, b, b, o, b}; !slices.Equal(row.Kinds, want) {
		t.Errorf("kinds %v, want %v", row.Kinds, want)
	}
	if want := []uint8{1, 4, 3, 2, 1, 1, 3, 1}; !slices.Equal(row.Sizes, want) {
		t.Errorf("sizes %v, want %v", row.Sizes, want)
	}
	if row := Read("", &table); len(row.Kinds) != 0 || len(row.Sizes) != 0 {
		t.Errorf("a text without bytes has %v", row)
	}
	if row := Read(strings.Repeat("\xe2\x82\xac\xe2\x82", 1000), &table); len(row.Kinds) != 2000 || len(row.Sizes) != 2000 {
		t.Errorf("a long text has %d characters", len(row.Kinds))
	}
}
