// Package cleave: text cut into segments by rules, as soon as it can be known: see DOC.md.
package cleave

import (
	"strings"

	"cleave/ahead"
	"cleave/api"
	"cleave/chars"
	"cleave/kinds"
	"cleave/places"
	"cleave/rules"
)

// Rules that were compiled.
type Rules struct {
	kinds   kinds.Table
	judge   places.Judge
	outlook ahead.Outlook
}

// Stream takes text that comes in pieces.
type Stream struct{}

// Compile reads rules (P3).
func Compile(text string) (*Rules, api.Errno, int) {
	read, fault, at := rules.Read(text)
	if fault != api.OK {
		return nil, fault, at
	}
	return &Rules{
		kinds:   read.Kinds,
		judge:   places.Make(read.List),
		outlook: ahead.Make(read.List, read.Kinds.Possible()),
	}, api.OK, 0
}

// Cut tells the segments of a text (P4).
func (r *Rules) Cut(text string) []string {
	if r == nil {
		return nil
	}
	row := chars.Read(text, &r.kinds)
	return segments(text, row.Sizes, r.judge.Cuts(row.Kinds))
}

// segments are what stands between the places at which a text is cut. Each is a copy: a piece of the text would share its memory.
func segments(text string, sizes []uint8, cuts []bool) []string {
	var told []string
	begin, end := 0, 0
	for i, size := range sizes {
		end += int(size)
		if cuts[i+1] {
			told = append(told, strings.Clone(text[begin:end]))
			begin = end
		}
	}
	return told
}

// Delay tells how long one may have to wait (P5).
func (r *Rules) Delay() int {
	if r == nil {
		return 0
	}
	return r.outlook.Delay()
}

// Open begins a stream (P6).
func (r *Rules) Open(full int) (*Stream, api.Errno) { return nil, api.OK }

// Write takes bytes, and tells segments (P6).
func (s *Stream) Write(b []byte) ([]string, api.Errno) { return nil, api.OK }

// Close tells the last segments (P6).
func (s *Stream) Close() ([]string, api.Errno) { return nil, api.OK }
