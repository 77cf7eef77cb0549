// Package sides tells at which places of a text a side of a rule matches.
package sides

import (
	"maps"
	"slices"

	"cleave/kinds"
	"cleave/parts"
)

// Left matches at a place if its expression matches some end of what stands ahead: so it is read from the front.
type Left struct{ spots table }

// Right matches at a place if its expression matches some beginning of what stands behind. Read from the back, that is what Left is: so each place costs one step, however far the expression looks.
type Right struct{ spots table }

func MakeLeft(m parts.Machine) Left { return Left{makeTable(forth(m), m.First, parts.Last)} }

func MakeRight(m parts.Machine) Right { return Right{makeTable(back(m), parts.Last, m.First)} }

// Matches tells it of the place ahead of each character, and of the one behind the last.
func (l Left) Matches(row []kinds.Kind) []bool {
	told := make([]bool, len(row)+1)
	at := 0
	told[0] = l.spots[at].match
	for i, k := range row {
		at = l.spots[at].next[k]
		told[i+1] = l.spots[at].match
	}
	return told
}

// Matches tells it of the place ahead of each character, and of the one behind the last.
func (r Right) Matches(row []kinds.Kind) []bool {
	told := make([]bool, len(row)+1)
	at := 0
	told[len(row)] = r.spots[at].match
	for i, k := range slices.Backward(row) {
		at = r.spots[at].next[k]
		told[i] = r.spots[at].match
	}
	return told
}

// spot is where a set of states stands in a table: it says whether the goal is in the set, and at which spot the set is that a character leads to.
type spot struct {
	match bool
	next  [kinds.Count]int
}

// table is the sets of states that can be come to, from the one at spot 0. There are few: what is in a set hangs on which of the expression's atoms the last character was taken by, and of these a side has no more than MaxAtoms.
type table []spot

// makeTable walks a graph from a state to a goal. The walk may begin at any character, so the first state is in each set.
func makeTable(g graph, first, goal int) table {
	begin := set{}
	g.stand(begin, first)
	sets := []set{begin}
	var t table
	for len(t) < len(sets) {
		now := sets[len(t)]
		var s spot
		_, s.match = now[goal]
		for k := range kinds.Count {
			next := g.step(now, k)
			g.stand(next, first)
			sets, s.next[k] = find(sets, next)
		}
		t = append(t, s)
	}
	return t
}

// find is where a set stands among others, at their end if it is new.
func find(sets []set, wanted set) ([]set, int) {
	at := slices.IndexFunc(sets, func(s set) bool { return maps.Equal(s, wanted) })
	if at >= 0 {
		return sets, at
	}
	return append(sets, wanted), len(sets)
}
