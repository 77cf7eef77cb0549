// Package places tells at which places a text is cut.
package places

import (
	"slices"

	"cleave/kinds"
	"cleave/rules"
	"cleave/sides"
)

type rule struct {
	cut   bool
	left  sides.Left
	right sides.Right
}

// Judge tells it by rules, of which the first that matches counts.
type Judge struct{ rules []rule }

func Make(list []rules.Rule) Judge {
	var j Judge
	for _, r := range list {
		j.rules = append(j.rules, rule{r.Cut, sides.MakeLeft(r.Left), sides.MakeRight(r.Right)})
	}
	return j
}

// Cuts tells it of the place ahead of each character, and of the end.
func (j Judge) Cuts(row []kinds.Kind) []bool {
	cuts := slices.Repeat([]bool{true}, len(row)+1)
	// The first rule comes last: so what it says stays.
	for _, r := range slices.Backward(j.rules) {
		r.judge(row, cuts)
	}
	return cuts
}

// judge leaves the beginning and the end alone: there the text is cut, and no rule is asked.
func (r rule) judge(row []kinds.Kind, cuts []bool) {
	left, right := r.left.Matches(row), r.right.Matches(row)
	for i := 1; i < len(row); i++ {
		if left[i] && right[i] {
			cuts[i] = r.cut
		}
	}
}
