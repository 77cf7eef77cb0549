package flow

import (
	"slices"
	"strings"
	"testing"

	"cleave/ahead"
	"cleave/api"
	"cleave/rules"
)

func mustMake(t *testing.T, text string) *Flow {
	t.Helper()
	read, no, at := rules.Read(text)
	if no != api.OK {
		t.Fatalf("Read(%q) = %d, %d", text, no, at)
	}
	outlook := ahead.Make(read.List, read.Kinds.Possible())
	return Make(&read.Kinds, &outlook)
}

// checkTake wants the segments that stand between the bars, and so many bytes left.
func checkTake(t *testing.T, f *Flow, piece, want string, untold int) {
	t.Helper()
	var segments []string
	if want != "" {
		segments = strings.Split(want, "|")
	}
	if got := f.Take([]byte(piece)); !slices.Equal(got, segments) || f.Untold() != untold {
		t.Errorf("Take(%q) = %q, %d bytes untold; want %q, %d", piece, got, f.Untold(), segments, untold)
	}
}

func checkEnd(t *testing.T, f *Flow, want ...string) {
	t.Helper()
	if got := f.End(); !slices.Equal(got, want) || f.Untold() != 0 {
		t.Errorf("End = %q, %d bytes untold; want %q", got, f.Untold(), want)
	}
}

func TestTakeTellsAndCountsWhatIsLeft(t *testing.T) {
	f := mustMake(t, "class L = 61-7A; join L | L;")
	checkTake(t, f, "", "", 0)
	checkTake(t, f, "ab", "", 2)
	checkTake(t, f, "c\xe2", "", 4)
	checkTake(t, f, "\x82", "", 5)
	checkTake(t, f, "\xac", "abc|\xe2\x82\xac", 0)
	checkTake(t, f, "\xf0\x9f", "", 2)
	checkTake(t, f, "xy!z", "\xf0\x9f|xy|!", 1)
	checkTake(t, f, "", "", 1)
	checkEnd(t, f, "z")
}

func TestEndTakesABeginningForBad(t *testing.T) {
	f := mustMake(t, "join bad | bad;")
	checkTake(t, f, "a\xff\xff\xf0\x9f\x98", "a", 5)
	checkEnd(t, f, "\xff\xff\xf0\x9f\x98")
	f = mustMake(t, "cut other | bad; join | ;")
	checkTake(t, f, "ab\xc3", "", 3)
	checkEnd(t, f, "ab", "\xc3")
	checkEnd(t, mustMake(t, "join | ;"))
}

// A flow that has told much keeps no room for it.
func TestWhatWasToldIsNotKept(t *testing.T) {
	f := mustMake(t, "class L = 61-7A; join L | L;")
	checkTake(t, f, "ab", "", 2)
	if got := f.Take([]byte(strings.Repeat("ab ", 100000) + "xyz")); len(got) != 200000 || cap(f.text) > 1000 {
		t.Errorf("%d segments told, room for %d bytes kept", len(got), cap(f.text))
	}
	checkTake(t, f, " ", "xyz| ", 0)
	if cap(f.text) > 1000 {
		t.Errorf("room for %d bytes kept", cap(f.text))
	}
}
