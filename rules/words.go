package rules

import (
	"slices"

	"cleave/api"
	"cleave/kinds"
)

// reader goes through a text of rules from the front. It looks at one word or sign at a time and at nothing behind it, so the first fault it meets is the first one of the text.
type reader struct {
	text    string
	at, end int // the word or sign that is looked at; both the length, if there is none left

	names []string // of the classes, each at its Kind
	rules Rules

	fault   api.Errno
	faultAt int
}

// step goes on to the next word or sign. A byte that is neither is taken like a sign: nobody asks for it, so it stands nowhere.
func (r *reader) step() {
	r.at = r.end
	for r.at < len(r.text) && isBlank(r.text[r.at]) {
		r.at++
	}
	r.end = r.at
	for r.end < len(r.text) && isWordByte(r.text[r.end]) {
		r.end++
	}
	if r.end == r.at && r.end < len(r.text) {
		r.end++
	}
}

func isBlank(b byte) bool { return b == ' ' || b == '\n' }

func isWordByte(b byte) bool {
	return 'a' <= b && b <= 'z' || 'A' <= b && b <= 'Z' || '0' <= b && b <= '9'
}

func (r *reader) now() string { return r.text[r.at:r.end] }

func (r *reader) ended() bool { return r.at == len(r.text) }

// is tells whether one of these words and signs is looked at.
func (r *reader) is(these ...string) bool { return slices.Contains(these, r.now()) }

// take goes past one of these words and signs and answers it, or "" if it is none of them.
func (r *reader) take(these ...string) string {
	if !r.is(these...) {
		return ""
	}
	taken := r.now()
	r.step()
	return taken
}

// need is take where nothing but these can stand.
func (r *reader) need(these ...string) string {
	taken := r.take(these...)
	if taken == "" {
		r.fail(api.ErrSyntax)
	}
	return taken
}

// isWordBut tells whether a word is looked at that is none of these.
func (r *reader) isWordBut(these ...string) bool {
	return !r.ended() && isWordByte(r.text[r.at]) && !r.is(these...)
}

func (r *reader) fail(no api.Errno) { r.failAt(no, r.at) }

// failAt keeps the first fault, and goes to the end of the text: there nothing that is asked for stands, so that every loop of the reader ends.
func (r *reader) failAt(no api.Errno, at int) {
	if r.fault == api.OK {
		r.fault, r.faultAt = no, at
	}
	r.at, r.end = len(r.text), len(r.text)
}

// kindOf is the class of that name.
func (r *reader) kindOf(name string) (kinds.Kind, bool) {
	i := slices.Index(r.names, name)
	return kinds.Kind(max(i, 0)), i >= 0
}
