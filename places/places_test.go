package places

import (
	"slices"
	"testing"

	"cleave/api"
	"cleave/chars"
	"cleave/kinds"
	"cleave/rules"
)

// cutsOf shows a text with a bar at each place at which it is cut, but for the beginning and the end.
func cutsOf(t *testing.T, text, of string) string {
	t.Helper()
	read, no, at := rules.Read("class a = 61; class b = 62; " + text)
	if no != api.OK {
		t.Fatalf("Read(%q) = %d, %d", text, no, at)
	}
	cuts := Make(read.List).Cuts(chars.Read(of, &read.Kinds).Kinds)
	if len(cuts) != len(of)+1 || !cuts[0] || !cuts[len(of)] {
		t.Fatalf("by %q %q is cut %v", text, of, cuts)
	}
	shown := of[:1]
	for i := 1; i < len(of); i++ {
		if cuts[i] {
			shown += "|"
		}
		shown += of[i : i+1]
	}
	return shown
}

func TestTheFirstRuleThatMatchesCounts(t *testing.T) {
	for _, c := range []struct{ rules, want string }{
		{"", "a|b|a|b"},
		{"join | ;", "abab"},
		{"cut | ; join | ;", "a|b|a|b"},
		{"join | ; cut | ;", "abab"},
		{"cut a | ; join | ;", "a|ba|b"},
		{"cut | a; join | ;", "ab|ab"},
		{"join a | b; cut | ;", "ab|ab"},
		{"cut b | b; cut a | a; join a | ; cut | ;", "ab|ab"},
		{"join b | a b; cut a | ; cut | a; join a | ;", "a|ba|b"},
		// The left matches, the right does not: the next rule is asked.
		{"cut a | a; join a | b;", "ab|ab"},
		{"cut b | b; join | ;", "abab"},
	} {
		if got := cutsOf(t, c.rules, "abab"); got != c.want {
			t.Errorf("by %q: %s, want %s", c.rules, got, c.want)
		}
	}
}

func TestNoRuleIsAskedAtTheEnds(t *testing.T) {
	for n := range 4 {
		read, _, _ := rules.Read("join | ; join any* | any*;")
		cuts := Make(read.List).Cuts(make([]kinds.Kind, n))
		want := append(make([]bool, n), true)
		want[0] = true
		if !slices.Equal(cuts, want) {
			t.Errorf("%d characters: %v, want %v", n, cuts, want)
		}
	}
}
