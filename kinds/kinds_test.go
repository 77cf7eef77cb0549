package kinds

import (
	"slices"
	"testing"
	"unicode/utf8"
)

func TestSetsAreOfTheKindsNamed(t *testing.T) {
	if s := Only(); s != 0 {
		t.Errorf("Only() = %b", s)
	}
	var sum Set
	for k := range count {
		one := Only(k)
		if one == 0 || one&sum != 0 {
			t.Errorf("Only(%d) = %b, not one kind of its own", k, one)
		}
		sum |= one
	}
	if sum != All {
		t.Errorf("all kinds are %b, All is %b", sum, All)
	}
	if s := Only(0, Other, Bad); s != Only(0)|Only(Other)|Only(Bad) {
		t.Errorf("Only of three = %b", s)
	}
}

func TestClassesAreKindsOfTheirOwn(t *testing.T) {
	if Other != 6 || Bad != 7 {
		t.Errorf("Other %d and Bad %d must stand right behind the six classes", Other, Bad)
	}
}

func TestAddKeepsWhatMayBe(t *testing.T) {
	var table Table
	spans := []Span{{'a', 'z'}, {'A', 'Z'}, {'[', '`'}, {0, 0}, {utf8.MaxRune, utf8.MaxRune}, {0xE000, 0xE000}, {0xD700, 0xD7FF}}
	for i, s := range spans {
		if !table.Add(s, Kind(i%3)) {
			t.Errorf("Add(%X) = false", s)
		}
		if e := table.entries[len(table.entries)-1]; e != (entry{s, Kind(i % 3)}) {
			t.Errorf("Add(%X) keeps %v", s, e)
		}
	}
}

func TestAddRefusesWhatMayNotBe(t *testing.T) {
	table := Table{[]entry{{Span{'d', 'f'}, 0}, {Span{'m', 'm'}, 1}}}
	kept := slices.Clone(table.entries)
	for _, s := range []Span{
		{'b', 'a'}, {'d', 'd'}, {'f', 'f'}, {'e', 'e'}, {'a', 'd'}, {'f', 'l'}, {'a', 'z'}, {'d', 'f'}, {'m', 'm'}, {'l', 'n'},
		{0xD800, 0xD800}, {0xDFFF, 0xDFFF}, {0xD7FF, 0xD800}, {0xDFFF, 0xE000}, {0xDA00, 0xDB00}, {0x100, utf8.MaxRune},
	} {
		if table.Add(s, 2) || !slices.Equal(table.entries, kept) {
			t.Errorf("Add(%X) = true, or it is kept", s)
		}
	}
	for _, s := range []Span{{'a', 'c'}, {'g', 'l'}, {'n', 'n'}} {
		if !table.Add(s, 2) {
			t.Errorf("Add(%X) = false beside what is taken", s)
		}
	}
}
