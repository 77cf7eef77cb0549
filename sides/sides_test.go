package sides

import (
	"math/rand"
	"slices"
	"testing"

	"cleave/api"
	"cleave/kinds"
	"cleave/parts"
)

// endsFrom tells where the rows end that a machine takes from a place on. It goes each way for itself, by no sets.
func endsFrom(m parts.Machine, row []kinds.Kind, from int) []bool {
	ends := make([]bool, len(row)+1)
	type pair struct{ state, at int }
	seen := map[pair]int{}
	var walk func(p pair)
	walk = func(p pair) {
		if seen[p]++; seen[p] > 1 {
			return
		}
		if p.state == parts.Last {
			ends[p.at] = true
		}
		s := m.States[p.state]
		if s.Takes != 0 {
			if p.at == len(row) || !s.Takes.Has(row[p.at]) {
				return
			}
			p.at++
		}
		for _, to := range s.To {
			walk(pair{to, p.at})
		}
	}
	walk(pair{m.First, from})
	return ends
}

func secondLeft(m parts.Machine, row []kinds.Kind) []bool {
	told := make([]bool, len(row)+1)
	for from := range told {
		for end, yes := range endsFrom(m, row, from) {
			told[end] = told[end] || yes
		}
	}
	return told
}

func secondRight(m parts.Machine, row []kinds.Kind) []bool {
	told := make([]bool, len(row)+1)
	for from := range told {
		told[from] = slices.Contains(endsFrom(m, row, from), true)
	}
	return told
}

func randomPart(rnd *rand.Rand, atoms, depth int) parts.Part {
	if atoms == 1 && (depth == 0 || rnd.Intn(2) == 0) {
		return parts.One([]kinds.Set{kinds.Only(0), kinds.Only(1), kinds.All, kinds.Only(kinds.Bad), kinds.Only(0, kinds.Other)}[rnd.Intn(5)])
	}
	if atoms > 1 && rnd.Intn(2) == 0 {
		n := 1 + rnd.Intn(atoms-1)
		one, two := randomPart(rnd, n, depth), randomPart(rnd, atoms-n, depth)
		if rnd.Intn(3) == 0 {
			return parts.Either(one, two)
		}
		return parts.Row(one, two)
	}
	if depth == 0 {
		return parts.Row(randomPart(rnd, 1, 0), randomPart(rnd, atoms-1, 0))
	}
	of := []func(parts.Part) parts.Part{parts.Star, parts.Plus, parts.Maybe}[rnd.Intn(3)]
	return of(randomPart(rnd, atoms, depth-1))
}

func randomRow(rnd *rand.Rand, n int) []kinds.Kind {
	row := make([]kinds.Kind, n)
	for i := range row {
		row[i] = []kinds.Kind{0, 1, kinds.Other, kinds.Bad}[rnd.Intn(4)]
	}
	return row
}

func TestSidesMatchAtTheirPlaces(t *testing.T) {
	rnd := rand.New(rand.NewSource(1))
	for range 1500 {
		m := parts.Make(randomPart(rnd, 1+rnd.Intn(api.MaxAtoms), rnd.Intn(4)))
		left, right := MakeLeft(m), MakeRight(m)
		for n := range 9 {
			row := randomRow(rnd, n)
			if got, want := left.Matches(row), secondLeft(m, row); !slices.Equal(got, want) {
				t.Fatalf("left of %v at %v: %v, want %v", m, row, got, want)
			}
			if got, want := right.Matches(row), secondRight(m, row); !slices.Equal(got, want) {
				t.Fatalf("right of %v at %v: %v, want %v", m, row, got, want)
			}
		}
	}
}

func TestOnwardMatchesFromWhereABeginningDoes(t *testing.T) {
	rnd := rand.New(rand.NewSource(4))
	for range 1500 {
		m := parts.Make(randomPart(rnd, 1+rnd.Intn(api.MaxAtoms), rnd.Intn(4)))
		onward := MakeOnward(m)
		for n := range 9 {
			row := randomRow(rnd, n)
			ends := endsFrom(m, row, 0)
			at, gone := Begin, Gone
			for i := range n + 1 {
				if got, want := onward.Match(at), slices.Contains(ends[:i+1], true); got != want {
					t.Fatalf("onward of %v at %v, %d known: %v, want %v", m, row, i, got, want)
				}
				if gone != Gone || onward.Match(gone) {
					t.Fatalf("onward of %v can match when it is gone", m)
				}
				if i < n {
					at, gone = onward.Next(at, row[i]), onward.Next(gone, row[i])
				}
			}
		}
	}
}

// What has matched stands at one spot, and what can match no more at another: else what is known of places would be more than can be told apart.
func TestOnwardHasOneSpotThatMatches(t *testing.T) {
	rnd := rand.New(rand.NewSource(5))
	for range 300 {
		m := parts.Make(randomPart(rnd, api.MaxAtoms, 3))
		onward := MakeOnward(m).table
		matching := 0
		for _, s := range onward {
			if s.match {
				matching++
			}
		}
		if matching != 1 || len(onward) > 1<<api.MaxAtoms+1 {
			t.Fatalf("%d of %d spots match", matching, len(onward))
		}
		for range 5 {
			if !slices.Equal(MakeOnward(m).table, onward) {
				t.Fatalf("two tables of one machine are not the same: %v", m)
			}
		}
	}
}

func TestASideWithoutPartsMatchesEverywhere(t *testing.T) {
	m := parts.Make(parts.Row())
	for _, row := range [][]kinds.Kind{nil, {0}, {kinds.Bad, kinds.Other, 5}} {
		if slices.Contains(MakeLeft(m).Matches(row), false) || slices.Contains(MakeRight(m).Matches(row), false) {
			t.Errorf("it does not match at a place of %v", row)
		}
	}
}

// A table has a spot for a set of states, not for each way to it: so it stays small, and is the same in whatever order a set is gone through.
func TestTablesHaveOneSpotForASet(t *testing.T) {
	rnd := rand.New(rand.NewSource(2))
	for range 300 {
		m := parts.Make(randomPart(rnd, api.MaxAtoms, 3))
		left, right := MakeLeft(m).table, MakeRight(m).table
		if most := 1 << api.MaxAtoms; len(left) > most || len(right) > most {
			t.Fatalf("%d and %d spots", len(left), len(right))
		}
		for range 5 {
			if !slices.Equal(MakeLeft(m).table, left) || !slices.Equal(MakeRight(m).table, right) {
				t.Fatalf("two tables of one machine are not the same: %v", m)
			}
		}
	}
}

func TestLoopsWithoutACharacterEnd(t *testing.T) {
	p := parts.One(kinds.Only(0))
	for range 4 {
		p = parts.Star(parts.Plus(parts.Maybe(p)))
	}
	m := parts.Make(p)
	row := randomRow(rand.New(rand.NewSource(3)), 20)
	if slices.Contains(MakeLeft(m).Matches(row), false) || slices.Contains(MakeRight(m).Matches(row), false) {
		t.Errorf("what matches no character at all does not match everywhere")
	}
}
