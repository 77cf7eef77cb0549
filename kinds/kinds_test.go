package kinds

import (
	"math/rand"
	"slices"
	"testing"
	"unicode/utf8"

	"cleave/api"
)

func TestSetsAreOfTheKindsNamed(t *testing.T) {
	if s := Only(); s != 0 {
		t.Errorf("Only() = %b", s)
	}
	var sum Set
	for k := range Count {
		one := Only(k)
		if one == 0 || one&sum != 0 {
			t.Errorf("Only(%d) = %b, not one kind of its own", k, one)
		}
		sum |= one
	}
	if sum != All {
		t.Errorf("all kinds are %b, All is %b", sum, All)
	}
	three := Only(0, Other, Bad)
	for k := range Count {
		if three.Has(k) != (k == 0 || k == Other || k == Bad) {
			t.Errorf("Only(0, Other, Bad) has %d: %v", k, three.Has(k))
		}
	}
}

func TestClassesAreKindsOfTheirOwn(t *testing.T) {
	if Other != 6 || Bad != 7 {
		t.Errorf("Other %d and Bad %d must stand right behind the six classes", Other, Bad)
	}
}

func TestAddKeepsWhatMayBe(t *testing.T) {
	var table Table
	spans := []Span{{'a', 'z'}, {'A', 'Z'}, {'[', '`'}, {0, 0}, {utf8.MaxRune, utf8.MaxRune}, {0xE000, 0xE000}, {0xD700, 0xD7FF}}
	for i, s := range spans {
		class := Kind(i % 3)
		if !table.Add(s, class) {
			t.Errorf("Add(%X) = false", s)
		}
		if table.Of(s.First) != class || table.Of(s.Last) != class {
			t.Errorf("Add(%X) gives %d and %d, want %d", s, table.Of(s.First), table.Of(s.Last), class)
		}
	}
	for _, code := range []rune{1, '@', '{', 0xD6FF, 0xE001, utf8.MaxRune - 1} {
		if k := table.Of(code); k != Other {
			t.Errorf("Of(%X) = %d beside all spans", code, k)
		}
	}
}

// The other way asks each span in turn.
func TestOfIsTheSpansOwnClass(t *testing.T) {
	rnd := rand.New(rand.NewSource(1))
	for range 300 {
		var table Table
		var added []entry
		for range rnd.Intn(12) {
			first := rune(rnd.Intn(60))
			e := entry{Span{first, first + rune(rnd.Intn(6))}, Kind(rnd.Intn(api.MaxClasses))}
			meets := slices.ContainsFunc(added, func(a entry) bool { return max(a.First, e.First) <= min(a.Last, e.Last) })
			if table.Add(e.Span, e.kind) == meets {
				t.Fatalf("Add(%v) = %v behind %v", e, !meets, added)
			}
			if !meets {
				added = append(added, e)
			}
		}
		for code := range rune(70) {
			want := Other
			for _, a := range added {
				if a.First <= code && code <= a.Last {
					want = a.kind
				}
			}
			if k := table.Of(code); k != want {
				t.Fatalf("Of(%d) = %d, want %d by %v", code, k, want, added)
			}
		}
	}
}

func TestAddRefusesWhatMayNotBe(t *testing.T) {
	table := Table{[]entry{{Span{'d', 'f'}, 0}, {Span{'m', 'm'}, 1}}}
	kept := slices.Clone(table.entries)
	for _, s := range []Span{
		{'b', 'a'}, {'d', 'd'}, {'f', 'f'}, {'e', 'e'}, {'a', 'd'}, {'f', 'l'}, {'a', 'z'}, {'d', 'f'}, {'m', 'm'}, {'l', 'n'},
		{0xD800, 0xD800}, {0xDFFF, 0xDFFF}, {0xD7FF, 0xD800}, {0xDFFF, 0xE000}, {0xDA00, 0xDB00}, {0x100, utf8.MaxRune},
	} {
		if table.Add(s, 2) || !slices.Equal(table.entries, kept) {
			t.Errorf("Add(%X) = true, or it is kept", s)
		}
	}
	for _, s := range []Span{{'a', 'c'}, {'g', 'l'}, {'n', 'n'}} {
		if !table.Add(s, 2) {
			t.Errorf("Add(%X) = false beside what is taken", s)
		}
	}
}

func TestPossibleIsWhatCharactersHave(t *testing.T) {
	for _, c := range []struct {
		entries []entry
		want    []Kind
	}{
		{nil, []Kind{Other, Bad}},
		{[]entry{{Span{'a', 'a'}, 0}}, []Kind{0, Other, Bad}},
		{[]entry{{Span{'b', 'b'}, 1}, {Span{'a', 'a'}, 0}, {Span{'c', 'z'}, 1}}, []Kind{0, 1, Other, Bad}},
		{[]entry{{Span{'a', 'a'}, 5}, {Span{'b', 'b'}, 4}, {Span{'c', 'c'}, 3}, {Span{'d', 'd'}, 2}, {Span{'e', 'e'}, 1}, {Span{'f', 'f'}, 0}}, []Kind{0, 1, 2, 3, 4, 5, Other, Bad}},
		// All that there are.
		{[]entry{{Span{0, 0xD7FF}, 0}, {Span{0xE000, utf8.MaxRune}, 0}}, []Kind{0, Bad}},
		{[]entry{{Span{0xE000, utf8.MaxRune}, 0}, {Span{0x80, 0xD7FF}, 2}, {Span{0, 0x7F}, 1}}, []Kind{0, 1, 2, Bad}},
		// All but one.
		{[]entry{{Span{1, 0xD7FF}, 0}, {Span{0xE000, utf8.MaxRune}, 0}}, []Kind{0, Other, Bad}},
		{[]entry{{Span{0, 0xD7FE}, 0}, {Span{0xE000, utf8.MaxRune}, 0}}, []Kind{0, Other, Bad}},
		{[]entry{{Span{0, 0xD7FF}, 0}, {Span{0xE001, utf8.MaxRune}, 0}}, []Kind{0, Other, Bad}},
		{[]entry{{Span{0, 0xD7FF}, 0}, {Span{0xE000, utf8.MaxRune - 1}, 0}}, []Kind{0, Other, Bad}},
		{[]entry{{Span{0, 'a' - 1}, 0}, {Span{'a' + 1, 0xD7FF}, 0}, {Span{0xE000, utf8.MaxRune}, 1}}, []Kind{0, 1, Other, Bad}},
	} {
		var table Table
		for _, e := range c.entries {
			if !table.Add(e.Span, e.kind) {
				t.Fatalf("Add(%X) = false", e)
			}
		}
		if got := table.Possible(); !slices.Equal(got, c.want) {
			t.Errorf("of %X the possible kinds are %v, want %v", c.entries, got, c.want)
		}
	}
}
