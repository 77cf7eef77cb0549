package rules

import (
	"strconv"
	"unicode/utf8"

	"cleave/api"
	"cleave/kinds"
)

func (r *reader) class() {
	if len(r.names) == api.MaxClasses {
		r.fail(api.ErrMany)
	}
	r.need("class")
	class := r.newName()
	r.need("=")
	r.span(class)
	for r.take(",") != "" {
		r.span(class)
	}
	r.need(";")
}

func (r *reader) newName() kinds.Kind {
	name := r.now()
	if !r.isWordBut("class", "cut", "join", "any", "other", "bad") {
		r.fail(api.ErrSyntax)
	}
	if _, known := r.kindOf(name); known {
		r.fail(api.ErrTwice)
	}
	r.names = append(r.names, name)
	r.step()
	return kinds.Kind(len(r.names) - 1)
}

// span reads a Range. What is wrong with the whole of it is told at its last Hex, and which that is, only a look at what stands behind the first one tells.
func (r *reader) span(class kinds.Kind) {
	at := r.at
	first := r.hex()
	last := first
	if r.take("-") != "" {
		at = r.at
		last = r.hex()
	}
	if !r.rules.Kinds.Add(kinds.Span{First: first, Last: last}, class) {
		r.failAt(api.ErrRange, at)
	}
}

func (r *reader) hex() rune {
	const maxDigits = 6
	code, err := strconv.ParseUint(r.now(), 16, 32)
	if err != nil || len(r.now()) > maxDigits {
		r.fail(api.ErrSyntax)
	}
	if code > utf8.MaxRune {
		r.fail(api.ErrRange)
	}
	r.step()
	return rune(code)
}
