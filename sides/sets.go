package sides

import (
	"cleave/kinds"
	"cleave/parts"
)

// edge leads to a state: with a character of one of these kinds, or, if takes is empty, without one.
type edge struct {
	takes kinds.Set
	to    int
}

// graph has the edges that leave each state of a machine.
type graph [][]edge

// forth is the graph of a machine that reads from the front.
func forth(m parts.Machine) graph {
	g := make(graph, len(m.States))
	for from, s := range m.States {
		for _, to := range s.To {
			g[from] = append(g[from], edge{s.Takes, to})
		}
	}
	return g
}

// back is the graph of a machine that reads from the back: each edge is turned round.
func back(m parts.Machine) graph {
	g := make(graph, len(m.States))
	for from, s := range m.States {
		for _, to := range s.To {
			g[to] = append(g[to], edge{s.Takes, from})
		}
	}
	return g
}

// set is the states at which one stands at once. Two sets are one if the same states are in them.
type set map[int]struct{}

func (s set) has(state int) bool {
	_, there := s[state]
	return there
}

// from is a set with one state, and those to which it leads without a character.
func (g graph) from(state int) set {
	s := set{}
	g.stand(s, state)
	return s
}

// stand adds a state to a set, and those to which it leads without a character. A state that is there already has brought them: so this ends in loops too.
func (g graph) stand(in set, at int) {
	if in.has(at) {
		return
	}
	in[at] = struct{}{}
	for _, e := range g[at] {
		if e.takes == 0 {
			g.stand(in, e.to)
		}
	}
}

// step is the states to which a character leads.
func (g graph) step(from set, k kinds.Kind) set {
	next := set{}
	for at := range from {
		for _, e := range g[at] {
			if e.takes.Has(k) {
				g.stand(next, e.to)
			}
		}
	}
	return next
}
