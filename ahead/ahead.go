// Package ahead tells, of places of texts that still come, whether they are settled.
package ahead

import (
	"cleave/kinds"
	"cleave/rules"
)

// Outlook is all that can be known of a place, and where more characters lead from there.
type Outlook struct {
	possible []kinds.Kind
	heads    []head
	views    []view
}

// head is one thing that can stand ahead of a place: start is the view of a place behind which no character is known yet. The first head is the beginning of a text, which is no place and has no view.
type head struct {
	start int
	next  [kinds.Count]int
}

// view is one thing that can be known of a place: whether it is cut if the text ends now, and whether it is so, or is not, whatever comes.
type view struct {
	cut, settled bool
	next         [kinds.Count]int
}

// Make looks at the places of all texts of these kinds.
func Make(list []rules.Rule, possible []kinds.Kind) Outlook {
	j := makeJudge(list)
	o := Outlook{possible: possible}
	var met found[known]
	o.lookBack(j, &met)
	o.lookOn(j, &met)
	o.settle()
	return o
}

// lookBack finds all that can stand ahead of a place, and what is known of the place by that alone.
func (o *Outlook) lookBack(j judge, met *found[known]) {
	var pasts found[past]
	pasts.find(past{})
	for i := 0; i < len(pasts.list); i++ {
		now := pasts.list[i]
		var h head
		if now.begun {
			h.start = met.find(j.start(now))
		}
		for _, k := range o.possible {
			h.next[k] = pasts.find(j.later(now, k))
		}
		o.heads = append(o.heads, h)
	}
}

// lookOn finds all that can be known of a place from there on.
func (o *Outlook) lookOn(j judge, met *found[known]) {
	for i := 0; i < len(met.list); i++ {
		v := view{cut: j.cuts(met.list[i])}
		for _, k := range o.possible {
			v.next[k] = met.find(j.next(met.list[i], k))
		}
		o.views = append(o.views, v)
	}
}

func (o *Outlook) settle() {
	sources := o.sources()
	mayCut, mayJoin := o.mayEnd(true, sources), o.mayEnd(false, sources)
	for i := range o.views {
		o.views[i].settled = !mayCut[i] || !mayJoin[i]
	}
}

// sources are, for each view, those that lead to it.
func (o *Outlook) sources() [][]int {
	sources := make([][]int, len(o.views))
	for i, v := range o.views {
		for _, k := range o.possible {
			sources[v.next[k]] = append(sources[v.next[k]], i)
		}
	}
	return sources
}

// mayEnd tells of each view whether the place may yet turn out to be cut, or to be not. It goes back from where that is so: then each view is looked at once.
func (o *Outlook) mayEnd(cut bool, sources [][]int) []bool {
	may := make([]bool, len(o.views))
	var work []int
	mark := func(at int) {
		if !may[at] {
			may[at] = true
			work = append(work, at)
		}
	}
	for i, v := range o.views {
		if v.cut == cut {
			mark(i)
		}
	}
	for len(work) > 0 {
		at := work[len(work)-1]
		work = work[:len(work)-1]
		for _, from := range sources[at] {
			mark(from)
		}
	}
	return may
}
