// Package sides tells at which places of a text a side of a rule matches.
package sides

import (
	"maps"
	"slices"

	"cleave/kinds"
	"cleave/parts"
)

// Left matches at a place if its expression matches some end of what stands ahead: so it is read from the front.
type Left struct{ table }

// Right matches at a place if its expression matches some beginning of what stands behind. Read from the back, that is what Left is: so each place costs one step, however far the expression looks.
type Right struct{ table }

// Onward is a right side too, but of one place alone, and read from there on: so it can be asked while characters still come. Once it matches it stays so, whatever comes.
type Onward struct{ table }

func MakeLeft(m parts.Machine) Left { return Left{anywhere(forth(m), m.First, parts.Last)} }

func MakeRight(m parts.Machine) Right { return Right{anywhere(back(m), parts.Last, m.First)} }

func MakeOnward(m parts.Machine) Onward { return Onward{fromHere(forth(m), m.First, parts.Last)} }

// Matches tells it of the place ahead of each character, and of the one behind the last.
func (l Left) Matches(row []kinds.Kind) []bool {
	told := make([]bool, len(row)+1)
	at := Begin
	told[0] = l.Match(at)
	for i, k := range row {
		at = l.Next(at, k)
		told[i+1] = l.Match(at)
	}
	return told
}

// Matches tells it of the place ahead of each character, and of the one behind the last.
func (r Right) Matches(row []kinds.Kind) []bool {
	told := make([]bool, len(row)+1)
	at := Begin
	told[len(row)] = r.Match(at)
	for i, k := range slices.Backward(row) {
		at = r.Next(at, k)
		told[i] = r.Match(at)
	}
	return told
}

// spot is where a set of states stands in a table: it says whether the goal is in the set, and at which spot the set is that a character leads to.
type spot struct {
	match bool
	next  [kinds.Count]int
}

// table is the sets of states that can be come to. There are few: what is in a set hangs on which of the expression's atoms the last character was taken by, and of these a side has no more than MaxAtoms.
type table []spot

const (
	Begin = iota // the spot of every side at which no character is read yet
	Gone         // the spot of an Onward that can match no more, whatever comes
)

// Match tells whether a side that stands at a spot matches.
func (t table) Match(at int) bool { return t[at].match }

// Next is the spot to which a character leads.
func (t table) Next(at int, k kinds.Kind) int { return t[at].next[k] }

// anywhere is the table of a walk that may begin at any character: so the first state is in each set.
func anywhere(g graph, first, goal int) table {
	next := func(now set, k kinds.Kind) set {
		then := g.step(now, k)
		g.stand(then, first)
		return then
	}
	return makeTable(next, goal, g.from(first))
}

// fromHere is the table of a walk that begins once. What else is in a set does not matter when the goal is: so such a set leads to itself, and all that are come to are one.
func fromHere(g graph, first, goal int) table {
	next := func(now set, k kinds.Kind) set {
		if now.has(goal) {
			return now
		}
		then := g.step(now, k)
		if then.has(goal) {
			return set{goal: {}}
		}
		return then
	}
	return makeTable(next, goal, g.from(first), set{})
}

// makeTable finds what can be come to from some sets, which have the first spots.
func makeTable(next func(now set, k kinds.Kind) set, goal int, sets ...set) table {
	var t table
	for len(t) < len(sets) {
		now := sets[len(t)]
		s := spot{match: now.has(goal)}
		for k := range kinds.Count {
			sets, s.next[k] = find(sets, next(now, k))
		}
		t = append(t, s)
	}
	return t
}

// find is where a set stands among others, at their end if it is new.
func find(sets []set, wanted set) ([]set, int) {
	at := slices.IndexFunc(sets, func(s set) bool { return maps.Equal(s, wanted) })
	if at >= 0 {
		return sets, at
	}
	return append(sets, wanted), len(sets)
}
