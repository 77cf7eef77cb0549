package rules

import (
	"cleave/api"
	"cleave/kinds"
	"cleave/parts"
)

// side reads one side of a rule, up to its stop. A side that is left out matches always, as a row without parts does.
func (r *reader) side(stop string) parts.Part {
	if r.is(stop) {
		return parts.Row()
	}
	var met counts
	return r.expr(&met)
}

// counts is how much there is already on a side of a rule: atoms in all of it, brackets around what is looked at.
type counts struct{ atoms, brackets int }

func (r *reader) expr(met *counts) parts.Part {
	rows := []parts.Part{r.row(met)}
	for r.take("/") != "" {
		rows = append(rows, r.row(met))
	}
	return parts.Either(rows...)
}

func (r *reader) row(met *counts) parts.Part {
	row := []parts.Part{r.part(met)}
	for r.isAtom() {
		row = append(row, r.part(met))
	}
	return parts.Row(row...)
}

func (r *reader) part(met *counts) parts.Part {
	atom := r.atom(met)
	switch r.take("*", "+", "?") {
	case "*":
		return parts.Star(atom)
	case "+":
		return parts.Plus(atom)
	case "?":
		return parts.Maybe(atom)
	}
	return atom
}

func (r *reader) isAtom() bool {
	return r.is("(") || r.isWordBut("class", "cut", "join")
}

func (r *reader) atom(met *counts) parts.Part {
	if !r.isAtom() {
		r.fail(api.ErrSyntax)
	}
	if r.is("(") {
		return r.bracket(met)
	}
	return r.one(met)
}

func (r *reader) bracket(met *counts) parts.Part {
	if met.brackets == api.MaxNest {
		r.fail(api.ErrMany)
	}
	r.need("(")
	met.brackets++
	inner := r.expr(met)
	met.brackets--
	r.need(")")
	return inner
}

// one reads a word for one character. A name that is no class's is told ahead of one too many.
func (r *reader) one(met *counts) parts.Part {
	takes, known := r.meaning(r.now())
	if !known {
		r.fail(api.ErrName)
	}
	if met.atoms == api.MaxAtoms {
		r.fail(api.ErrMany)
	}
	met.atoms++
	r.step()
	return parts.One(takes)
}

func (r *reader) meaning(word string) (kinds.Set, bool) {
	switch word {
	case "any":
		return kinds.All, true
	case "other":
		return kinds.Only(kinds.Other), true
	case "bad":
		return kinds.Only(kinds.Bad), true
	}
	class, known := r.kindOf(word)
	return kinds.Only(class), known
}
