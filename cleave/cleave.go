// Package cleave: text cut into segments by rules, as soon as it can be known: see DOC.md.
package cleave

import (
	"strings"

	"cleave/ahead"
	"cleave/api"
	"cleave/chars"
	"cleave/flow"
	"cleave/kinds"
	"cleave/places"
	"cleave/rules"
)

// Rules that were compiled.
type Rules struct {
	kinds   kinds.Table
	judge   places.Judge
	outlook ahead.Outlook
}

// Stream takes text that comes in pieces.
type Stream struct {
	full    int
	flow    *flow.Flow // nil, when the stream takes no more: nothing is kept then
	wasFull bool
}

// Compile reads rules (P3).
func Compile(text string) (*Rules, api.Errno, int) {
	read, fault, at := rules.Read(text)
	if fault != api.OK {
		return nil, fault, at
	}
	return &Rules{
		kinds:   read.Kinds,
		judge:   places.Make(read.List),
		outlook: ahead.Make(read.List, read.Kinds.Possible()),
	}, api.OK, 0
}

// Cut tells the segments of a text (P4).
func (r *Rules) Cut(text string) []string {
	if r == nil {
		return nil
	}
	row := chars.Read(text, &r.kinds)
	return segments(text, row.Sizes, r.judge.Cuts(row.Kinds))
}

// segments are what stands between the places at which a text is cut. Each is a copy: a piece of the text would share its memory.
func segments(text string, sizes []uint8, cuts []bool) []string {
	var told []string
	begin, end := 0, 0
	for i, size := range sizes {
		end += int(size)
		if cuts[i+1] {
			told = append(told, strings.Clone(text[begin:end]))
			begin = end
		}
	}
	return told
}

// Delay tells how long one may have to wait (P5).
func (r *Rules) Delay() int {
	if r == nil {
		return 0
	}
	return r.outlook.Delay()
}

// Open begins a stream (P6).
func (r *Rules) Open(full int) (*Stream, api.Errno) {
	if full < 1 || full > api.MaxFull {
		return nil, api.ErrLong
	}
	if r == nil {
		// Without rules there are no segments, as in Cut: so the stream takes nothing.
		return &Stream{}, api.OK
	}
	return &Stream{full: full, flow: flow.Make(&r.kinds, &r.outlook)}, api.OK
}

// Write takes bytes, and tells segments (P6).
func (s *Stream) Write(b []byte) ([]string, api.Errno) {
	if fault := s.fault(); fault != api.OK {
		return nil, fault
	}
	told := s.flow.Take(b)
	if s.flow.Untold() > s.full {
		s.flow, s.wasFull = nil, true
	}
	return told, s.fault()
}

// Close tells the last segments (P6).
func (s *Stream) Close() ([]string, api.Errno) {
	if fault := s.fault(); fault != api.OK {
		return nil, fault
	}
	told := s.flow.End()
	s.flow = nil
	return told, api.OK
}

// fault is why a stream takes no more (P7).
func (s *Stream) fault() api.Errno {
	switch {
	case s == nil:
		return api.ErrClosed
	case s.wasFull:
		return api.ErrFull
	case s.flow == nil:
		return api.ErrClosed
	}
	return api.OK
}
