// Package rules reads rules: their classes, and what stands on both sides of each place they speak of.
package rules

import (
	"cleave/api"
	"cleave/kinds"
	"cleave/parts"
)

// Rule tells of the places at which both its sides match.
type Rule struct {
	Cut         bool
	Left, Right parts.Machine
}

// Rules are what a text of rules says. The names are gone: nothing of the text is kept.
type Rules struct {
	Kinds kinds.Table
	List  []Rule
}

// Read reads a text of rules. With a fault it answers its number and its place.
func Read(text string) (Rules, api.Errno, int) {
	if len(text) > api.MaxText {
		return Rules{}, api.ErrLong, 0
	}
	r := reader{text: text}
	r.step()
	for r.is("class") {
		r.class()
	}
	for r.is("cut", "join") {
		r.rule()
	}
	if !r.ended() {
		r.fail(api.ErrSyntax)
	}
	if r.fault != api.OK {
		return Rules{}, r.fault, r.faultAt
	}
	return r.rules, api.OK, 0
}

func (r *reader) rule() {
	if len(r.rules.List) == api.MaxRules {
		r.fail(api.ErrMany)
	}
	word := r.need("cut", "join")
	left := r.side("|")
	r.need("|")
	right := r.side(";")
	r.need(";")
	r.rules.List = append(r.rules.List, Rule{word == "cut", parts.Make(left), parts.Make(right)})
}
