// Package kinds tells of which kind the characters of a text are.
package kinds

import (
	"slices"

	"cleave/api"
)

// Kind is what rules see of a character. The classes are the kinds from 0 up, in the order in which they were told.
type Kind uint8

const (
	Other Kind = api.MaxClasses + iota
	Bad
	count
)

// Set has a bit for each Kind: there are so few that a number is enough, and it can be compared.
type Set uint8

const All Set = 1<<count - 1

// Only is the set of these kinds.
func Only(these ...Kind) Set {
	var s Set
	for _, k := range these {
		s |= 1 << k
	}
	return s
}

// Span is the code points from First to Last, both in it.
type Span struct{ First, Last rune }

func (s Span) meets(other Span) bool { return s.First <= other.Last && other.First <= s.Last }

type entry struct {
	Span
	kind Kind
}

// Table tells which code points are of a class. No two of its entries meet, so their order tells nothing.
type Table struct{ entries []entry }

// Add gives the code points of a span to a class. It answers false, and leaves the table as it is, where that may not be.
func (t *Table) Add(s Span, class Kind) bool {
	// No character has one of these code points: UTF-8 has no form for them.
	surrogates := Span{0xD800, 0xDFFF}
	if s.Last < s.First || s.meets(surrogates) || t.meets(s) {
		return false
	}
	t.entries = append(t.entries, entry{s, class})
	return true
}

func (t *Table) meets(s Span) bool {
	return slices.ContainsFunc(t.entries, func(e entry) bool { return e.meets(s) })
}
