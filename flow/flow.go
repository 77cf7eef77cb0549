// Package flow cuts a text that comes in pieces.
package flow

import (
	"bytes"

	"cleave/ahead"
	"cleave/chars"
	"cleave/kinds"
)

// Flow is a text of which more may come: what is not told yet, and what is known of its places.
type Flow struct {
	table *kinds.Table
	watch *ahead.Watch
	text  []byte // what came and is not told yet
	known int    // how many of these bytes are of characters that are known
}

// Make begins a text. It looks at the rules, and leaves them as they are.
func Make(table *kinds.Table, outlook *ahead.Outlook) *Flow {
	return &Flow{table: table, watch: outlook.Watch()}
}

// Take takes the next bytes, and answers the segments that can be told now.
func (f *Flow) Take(b []byte) []string {
	f.text = append(f.text, b...)
	var told []string
	for kind, size := f.next(); size > 0; kind, size = f.next() {
		f.know(kind, size)
		told = f.tell(told)
	}
	if len(told) > 0 {
		// A copy, as else all the bytes that were told would be kept too.
		f.text = bytes.Clone(f.text)
	}
	return told
}

// End answers the segments that were not told yet. The bytes of a character that has only begun are one that is bad.
func (f *Flow) End() []string {
	if size := f.Untold() - f.known; size > 0 {
		f.know(kinds.Bad, size)
	}
	f.watch.End()
	return f.tell(nil)
}

// Untold is how many bytes came that are not told yet.
func (f *Flow) Untold() int { return len(f.text) }

func (f *Flow) next() (kinds.Kind, int) { return chars.Next(f.text[f.known:], f.table) }

func (f *Flow) know(kind kinds.Kind, size int) {
	f.watch.Take(kind, size)
	f.known += size
}

// tell adds the segments that can be told. Each is a copy of its bytes.
func (f *Flow) tell(told []string) []string {
	for size := f.watch.Next(); size > 0; size = f.watch.Next() {
		told = append(told, string(f.text[:size]))
		f.text = f.text[size:]
		f.known -= size
	}
	return told
}
