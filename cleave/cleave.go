// Package cleave: text cut into segments by rules, as soon as it can be known: see DOC.md.
package cleave

import (
	"cleave/api"
	"cleave/rules"
)

// Rules that were compiled.
type Rules struct{ rules rules.Rules }

// Stream takes text that comes in pieces.
type Stream struct{}

// Compile reads rules (P3).
func Compile(text string) (*Rules, api.Errno, int) {
	read, fault, at := rules.Read(text)
	if fault != api.OK {
		return nil, fault, at
	}
	return &Rules{read}, api.OK, 0
}

// Cut tells the segments of a text (P4).
func (r *Rules) Cut(text string) []string { return nil }

// Delay tells how long one may have to wait (P5).
func (r *Rules) Delay() int { return 0 }

// Open begins a stream (P6).
func (r *Rules) Open(full int) (*Stream, api.Errno) { return nil, api.OK }

// Write takes bytes, and tells segments (P6).
func (s *Stream) Write(b []byte) ([]string, api.Errno) { return nil, api.OK }

// Close tells the last segments (P6).
func (s *Stream) Close() ([]string, api.Errno) { return nil, api.OK }
