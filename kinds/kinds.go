// Package kinds tells of which kind the characters of a text are.
package kinds

import (
	"cmp"
	"slices"
	"unicode/utf8"

	"cleave/api"
)

// Kind is what rules see of a character. The classes are the kinds from 0 up, in the order in which they were told.
type Kind uint8

const (
	Other Kind = api.MaxClasses + iota
	Bad
	Count
)

// Set has a bit for each Kind: there are so few that a number is enough, and it can be compared.
type Set uint8

const All Set = 1<<Count - 1

// Only is the set of these kinds.
func Only(these ...Kind) Set {
	var s Set
	for _, k := range these {
		s |= 1 << k
	}
	return s
}

// Has tells whether a kind is in the set.
func (s Set) Has(k Kind) bool { return s&Only(k) != 0 }

// Span is the code points from First to Last, both in it.
type Span struct{ First, Last rune }

func (s Span) meets(other Span) bool { return s.First <= other.Last && other.First <= s.Last }

func (s Span) size() int { return int(s.Last-s.First) + 1 }

// No character has one of these code points: UTF-8 has no form for them.
var surrogates = Span{0xD800, 0xDFFF}

type entry struct {
	Span
	kind Kind
}

// Table tells which code points are of a class. No two of its entries meet, and they stand in order, so that one of them can be found without a look at all.
type Table struct{ entries []entry }

// Add gives the code points of a span to a class. It answers false, and leaves the table as it is, where that may not be.
func (t *Table) Add(s Span, class Kind) bool {
	if s.Last < s.First || s.meets(surrogates) {
		return false
	}
	at := t.firstThatEndsFrom(s.First)
	if at < len(t.entries) && t.entries[at].meets(s) {
		return false
	}
	t.entries = slices.Insert(t.entries, at, entry{s, class})
	return true
}

// Of is the kind of the character with that code point.
func (t *Table) Of(code rune) Kind {
	at := t.firstThatEndsFrom(code)
	if at < len(t.entries) && t.entries[at].First <= code {
		return t.entries[at].kind
	}
	return Other
}

// firstThatEndsFrom is where the first entry stands that does not end ahead of a code point.
func (t *Table) firstThatEndsFrom(code rune) int {
	at, _ := slices.BinarySearchFunc(t.entries, code, func(e entry, code rune) int { return cmp.Compare(e.Last, code) })
	return at
}

// Possible is the kinds that characters have, in order. Each class has a character, and a bad one may always come; but if the classes have them all, none is left that is Other.
func (t *Table) Possible() []Kind {
	there := Only(Bad)
	left := utf8.MaxRune + 1 - surrogates.size()
	for _, e := range t.entries {
		there |= Only(e.kind)
		left -= e.size()
	}
	if left > 0 {
		there |= Only(Other)
	}
	var possible []Kind
	for k := range Count {
		if there.Has(k) {
			possible = append(possible, k)
		}
	}
	return possible
}
