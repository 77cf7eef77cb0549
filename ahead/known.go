package ahead

import (
	"cleave/api"
	"cleave/kinds"
	"cleave/rules"
	"cleave/sides"
)

type rule struct {
	cut   bool
	left  sides.Left
	right sides.Onward
}

// judge tells what is known of a place, while characters come.
type judge []rule

func makeJudge(list []rules.Rule) judge {
	var j judge
	for _, r := range list {
		j = append(j, rule{r.Cut, sides.MakeLeft(r.Left), sides.MakeOnward(r.Right)})
	}
	return j
}

// spots has, for each rule, where one of its sides stands.
type spots [api.MaxRules]int

// past is what stands ahead of a place, as left sides see it. That no character does is told apart: the beginning of a text is no place.
type past struct {
	begun bool
	lefts spots
}

// known is what is known of a place. That no character behind it is known is told apart: the text may end there, and then no rule is asked.
type known struct {
	behind bool
	rights spots
}

// later is what stands ahead when one more character does.
func (j judge) later(now past, k kinds.Kind) past {
	now.begun = true
	for i, r := range j {
		now.lefts[i] = r.left.Next(now.lefts[i], k)
	}
	return now
}

// start is what is known of a place by what stands ahead of it: which left sides match there at the same time.
func (j judge) start(ahead past) known {
	var now known
	for i, r := range j {
		if !r.left.Match(ahead.lefts[i]) {
			now.rights[i] = sides.Gone
		}
	}
	return j.trim(now)
}

// next is what is known of a place when one more character behind it is.
func (j judge) next(now known, k kinds.Kind) known {
	now.behind = true
	for i, r := range j {
		now.rights[i] = r.right.Next(now.rights[i], k)
	}
	return j.trim(now)
}

// trim forgets the rules behind one that matches: they do not count any more.
func (j judge) trim(now known) known {
	for i := j.first(now) + 1; i < len(j); i++ {
		now.rights[i] = sides.Gone
	}
	return now
}

// first is the first rule that matches, len(j) if there is none.
func (j judge) first(now known) int {
	for i, r := range j {
		if r.right.Match(now.rights[i]) {
			return i
		}
	}
	return len(j)
}

// cuts tells whether a text that ends behind what is known is cut at the place.
func (j judge) cuts(now known) bool {
	i := j.first(now)
	return !now.behind || i == len(j) || j[i].cut
}
