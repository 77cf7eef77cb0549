// Package parts builds what an expression means: a machine of states, made by closures.
package parts

import "cleave/kinds"

// State is where a machine may stand. With an empty Takes it takes no character and stands at each of To at once; else it takes one character of these kinds, and then stands at each of To.
type State struct {
	Takes kinds.Set
	To    []int
}

// Last is the state of every machine that stands behind the whole expression: who comes there has matched.
const Last = 0

// Machine matches the rows of kinds that lead from First to Last.
type Machine struct {
	States []State
	First  int
}

// Part makes its states in m, given the state behind it, and answers the state at which it begins. A part that knows only what is behind it can be put anywhere, and the states it makes are its own each time.
type Part func(m *Machine, behind int) int

// Make is the machine of a whole expression.
func Make(whole Part) Machine {
	m := Machine{States: []State{Last: {}}}
	m.First = whole(&m, Last)
	return m
}

func (m *Machine) add(takes kinds.Set, to ...int) int {
	m.States = append(m.States, State{takes, to})
	return len(m.States) - 1
}

func (m *Machine) lead(from int, to ...int) {
	m.States[from].To = append(m.States[from].To, to...)
}

// One matches one character of these kinds.
func One(takes kinds.Set) Part {
	return func(m *Machine, behind int) int { return m.add(takes, behind) }
}

// Row matches its parts, the one behind the other. Without parts it matches no character at all.
func Row(row ...Part) Part {
	return func(m *Machine, behind int) int {
		for i := len(row) - 1; i >= 0; i-- {
			behind = row[i](m, behind)
		}
		return behind
	}
}

// Either matches what one of its parts matches.
func Either(ways ...Part) Part {
	if len(ways) == 1 {
		return ways[0]
	}
	return func(m *Machine, behind int) int {
		fork := m.add(0)
		for _, way := range ways {
			m.lead(fork, way(m, behind))
		}
		return fork
	}
}

// Star matches p any number of times.
func Star(p Part) Part {
	return func(m *Machine, behind int) int {
		fork, _ := loop(m, p, behind)
		return fork
	}
}

// Plus matches p one or more times.
func Plus(p Part) Part {
	return func(m *Machine, behind int) int {
		_, first := loop(m, p, behind)
		return first
	}
}

// Maybe matches p once or not.
func Maybe(p Part) Part { return Either(p, Row()) }

// loop makes p once, with a fork behind it that leads back into p or out of it. The fork stands first, as p must be given it.
func loop(m *Machine, p Part, behind int) (fork, first int) {
	fork = m.add(0, behind)
	first = p(m, fork)
	m.lead(fork, first)
	return fork, first
}
