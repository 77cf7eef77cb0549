package ahead

import (
	"reflect"
	"slices"
	"testing"

	"cleave/api"
	"cleave/kinds"
	"cleave/rules"
)

const (
	classes = "class a = 61; class b = 62; "
	// full leaves no character that is other.
	full = "class a = 0-D7FF; class b = E000-10FFFF; "
)

func mustMake(t *testing.T, text string) Outlook {
	t.Helper()
	read, no, at := rules.Read(text)
	if no != api.OK {
		t.Fatalf("Read(%q) = %d, %d", text, no, at)
	}
	return Make(read.List, read.Kinds.Possible())
}

var someRules = [...]string{
	"", "join | ;", "cut | ;", "join a | b b b;", "join a | b* a;", "join a | b+;", "cut | any any; join | b* a;",
	"join a b? | a b; cut b | a* b; join | any any; cut any* | bad+ other;", "cut any | ; join | any* a;",
	"join other | any* bad; cut | b;", "cut a | a b a; join | b; cut | ;",
}

// ends are the views that can be come to from one, and from itself.
func ends(o Outlook, from int) map[int]int {
	seen := map[int]int{from: 1}
	for work := []int{from}; len(work) > 0; work = work[1:] {
		for _, k := range o.possible {
			next := o.views[work[0]].next[k]
			if seen[next]++; seen[next] == 1 {
				work = append(work, next)
			}
		}
	}
	return seen
}

func TestAViewIsSettledIfAllThatMayComeAgrees(t *testing.T) {
	for _, prefix := range []string{classes, full} {
		for _, text := range someRules {
			o := mustMake(t, prefix+text)
			for i, v := range o.views {
				agree := true
				for end := range ends(o, i) {
					agree = agree && o.views[end].cut == v.cut
				}
				if v.settled != agree {
					t.Errorf("by %q view %d is settled: %v, want %v", text, i, v.settled, agree)
				}
			}
		}
	}
}

func TestDelayIsTheLongestWait(t *testing.T) {
	for i, want := range []int{0, 1, 0, 3, -1, 1, 2, -1, 0, -1, 1} {
		o := mustMake(t, classes+someRules[i])
		if got := o.Delay(); got != want {
			t.Errorf("Delay of %q = %d, want %d", someRules[i], got, want)
		}
	}
}

func TestWhatNoCharacterIsDoesNotCome(t *testing.T) {
	for text, want := range map[string]int{
		"join other | any* bad; cut | b;":   0,
		"cut a / b / bad | ; join | a a a;": 0,
		"join a | other any any;":           0,
		"join a | b other* a;":              2,
	} {
		o := mustMake(t, full+text)
		if got := o.Delay(); got != want {
			t.Errorf("Delay of %q = %d, want %d", text, got, want)
		}
	}
}

// Rules behind one that matches count no more: so they are no part of what is known.
func TestRulesThatDoNotCountAreForgotten(t *testing.T) {
	for _, c := range []struct{ first, more string }{
		{"join | ;", "cut a any* | any* b any a; cut | a b a b; join bad* a | any* bad;"},
		{"cut | any*; join | ;", "cut bad | any* a b;"},
		{"join | any;", "join a* | any any* bad;"},
		{"cut | any; join | ;", "cut bad | any* a b;"},
		{"join | any any; cut | any any;", "join | any any any* bad;"},
	} {
		alone, all := mustMake(t, classes+c.first), mustMake(t, classes+c.first+c.more)
		if !slices.Equal(all.views, alone.views) {
			t.Errorf("by %q: %d views with rules that do not count, %d without", c.first, len(all.views), len(alone.views))
		}
	}
}

// What an Outlook is hangs on the rules alone, not on the order in which a map is gone through.
func TestOutlooksOfOneTextAreTheSame(t *testing.T) {
	for _, text := range someRules {
		o := mustMake(t, classes+text)
		for range 10 {
			if !reflect.DeepEqual(mustMake(t, classes+text), o) {
				t.Fatalf("two outlooks of %q are not the same", text)
			}
		}
	}
}

// As many rules and atoms as there may be, such that each of them remembers much: what can be known is still little.
func TestOutlooksStaySmall(t *testing.T) {
	const six = "class a = 61; class b = 62; class c = 63; class d = 64; class e = 65; class f = 66; "
	for _, text := range []string{
		"join a any any any | any* a any e; cut b any any any | any* b any f; join c any any any | any* c any e; cut d any any any | any* d any f;",
		"join any* a any* b | any* (a / b) any; cut any* c any* d | any* (c / d) any; join any* e any* f | any* (e / f) any; cut any* bad any* other | any* other any any;",
		"join (a / b) any any | (a / b / c)* d; cut (b / c) any any | (b / c / d)* e; join (c / d) any any | (c / d / e)* f; cut (d / e) any any | (d / e / f)* a;",
	} {
		if o := mustMake(t, six+text); len(o.views) > 5000 {
			t.Errorf("%q has %d views", text, len(o.views))
		}
	}
}

func TestFoundHasEachThingOnce(t *testing.T) {
	var f found[kinds.Kind]
	for i, k := range []kinds.Kind{3, 1, 3, 2, 1, 3} {
		if got, want := f.find(k), []int{0, 1, 0, 2, 1, 0}[i]; got != want {
			t.Errorf("%d stands at %d, want %d", k, got, want)
		}
	}
	if !slices.Equal(f.list, []kinds.Kind{3, 1, 2}) {
		t.Errorf("found are %v", f.list)
	}
}
