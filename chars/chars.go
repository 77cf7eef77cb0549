// Package chars reads bytes as characters.
package chars

import (
	"unicode/utf8"

	"cleave/kinds"
)

// Row is the characters of a text: of each its kind, and how many bytes it has.
type Row struct {
	Kinds []kinds.Kind
	Sizes []uint8
}

// Read is the row of all characters of a text.
func Read(text string, table *kinds.Table) Row {
	var row Row
	for len(text) > 0 {
		kind, size := first(text, table)
		row.Kinds = append(row.Kinds, kind)
		row.Sizes = append(row.Sizes, uint8(size))
		text = text[size:]
	}
	return row
}

// Next is the first character of a text of which more may come: its kind, and how many bytes it has; 0 bytes, if it is not known yet.
func Next(text []byte, table *kinds.Table) (kinds.Kind, int) {
	// What has a well-formed sequence at its front is full, and so is what cannot become one, whatever comes.
	if !utf8.FullRune(text) {
		return 0, 0
	}
	return first(string(text[:min(len(text), utf8.UTFMax)]), table)
}

func first(text string, table *kinds.Table) (kinds.Kind, int) {
	code, size := utf8.DecodeRuneInString(text)
	// The code point FFFD is a character like others, if it stands there in its own three bytes.
	if code == utf8.RuneError && size == 1 {
		return kinds.Bad, badSize(text)
	}
	return table.Of(code), size
}

// badSize is the length of the longest beginning of a well-formed sequence, but 1 at least. A row of bytes is not full as long as it is such a beginning.
func badSize(text string) int {
	size := 1
	for size < len(text) && !utf8.FullRuneInString(text[:size+1]) {
		size++
	}
	return size
}
