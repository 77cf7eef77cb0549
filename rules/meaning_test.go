package rules

import (
	"math/rand"
	"reflect"
	"regexp"
	"strings"
	"testing"

	"cleave/api"
	"cleave/kinds"
	"cleave/parts"
)

const classes = "class A = 61; class B = 62, 41-5A; "

// letters has a letter for each kind that the rules here speak of: the classes A and B, other and bad.
const letters = "ABob"

func kindOfLetter(b byte) kinds.Kind {
	return []kinds.Kind{0, 1, kinds.Other, kinds.Bad}[strings.IndexByte(letters, b)]
}

// matches walks the pairs of a state and a rest of the row that can be come to, each once.
func matches(m parts.Machine, row string) bool {
	type pair struct{ state, rest int }
	work := []pair{{m.First, 0}}
	seen := map[pair]int{work[0]: 1}
	for ; len(work) > 0; work = work[1:] {
		at := work[0]
		s := m.States[at.state]
		rest := at.rest
		if s.Takes != 0 {
			if rest == len(row) || s.Takes&kinds.Only(kindOfLetter(row[rest])) == 0 {
				continue
			}
			rest++
		}
		for _, to := range s.To {
			if next := (pair{to, rest}); seen[next] == 0 {
				seen[next] = 1
				work = append(work, next)
			}
		}
	}
	return seen[pair{parts.Last, len(row)}] == 1
}

func mustRead(t *testing.T, text string) Rules {
	t.Helper()
	r, e, at := Read(text)
	if e != api.OK {
		t.Fatalf("Read(%q) = %d, %d", text, e, at)
	}
	return r
}

func rowsUpTo(n int) []string {
	rows := []string{""}
	for from := 0; n > 0; n-- {
		upTo := len(rows)
		for _, r := range rows[from:upTo] {
			for i := range letters {
				rows = append(rows, r+letters[i:i+1])
			}
		}
		from = upTo
	}
	return rows
}

// asRegexp says an Expr in the words of another machine.
func asRegexp(expr string) *regexp.Regexp {
	words := strings.NewReplacer("any", "["+letters+"]", "other", "o", "bad", "b", "/", "|", " ", "")
	return regexp.MustCompile("^(?:" + words.Replace(expr) + ")$")
}

func checkMeaning(t *testing.T, expr string, rows []string) {
	t.Helper()
	left := mustRead(t, classes+"cut "+expr+"|;").List[0].Left
	right := mustRead(t, classes+"join |"+expr+";").List[0].Right
	want := asRegexp(expr)
	for _, row := range rows {
		yes := want.MatchString(row)
		if matches(left, row) != yes {
			t.Errorf("left %q matches %q: want %v", expr, row, yes)
		}
		if matches(right, row) != yes {
			t.Errorf("right %q matches %q: want %v", expr, row, yes)
		}
	}
}

func TestExprMeansWhatItSays(t *testing.T) {
	rows := rowsUpTo(4)
	for _, expr := range []string{
		"A", "B", "any", "other", "bad", "A B", "A / B", "A B / B A", "A*", "A+", "A?", "(A B)*", "(A / B)+", "A B*", "A / B*",
		"(A / B) other", "A / (B other)", "((A))", "((A*)*)*", "((A?)+)?", "any* A", "A any* B", "(A+ / bad)* other?", "(A* B*)+",
		"(((A / B)? other)+ bad)*", "A A? A? A?",
	} {
		checkMeaning(t, expr, rows)
	}
}

func randomExpr(rnd *rand.Rand, atoms, depth int) string {
	var row []string
	for atoms > 0 {
		n := 1
		atom := []string{"A", "B", "any", "other", "bad"}[rnd.Intn(5)]
		if depth > 0 && rnd.Intn(2) == 0 {
			n = 1 + rnd.Intn(atoms)
			atom = "(" + randomExpr(rnd, n, depth-1) + ")"
		}
		atoms -= n
		row = append(row, atom+[]string{"", "", "*", "+", "?"}[rnd.Intn(5)])
		if atoms > 0 && rnd.Intn(3) == 0 {
			row = append(row, "/")
		}
	}
	return strings.Join(row, " ")
}

func TestRandomExprsMeanWhatTheySay(t *testing.T) {
	rnd := rand.New(rand.NewSource(1))
	rows := rowsUpTo(4)
	for range 300 {
		checkMeaning(t, randomExpr(rnd, 1+rnd.Intn(api.MaxAtoms), api.MaxNest), rows)
	}
}

func TestASideThatIsLeftOutMatchesNoCharacterAtAll(t *testing.T) {
	r := mustRead(t, "cut | ;").List[0]
	for _, m := range []parts.Machine{r.Left, r.Right} {
		if m.First != parts.Last {
			t.Errorf("it begins at %d", m.First)
		}
	}
}

func TestRulesStandInTheirOrder(t *testing.T) {
	r := mustRead(t, classes+"cut A | ; join A | B; join | ; cut | bad;")
	for i, cut := range []bool{true, false, false, true} {
		if len(r.List) != 4 || r.List[i].Cut != cut {
			t.Fatalf("rule %d of %d is not cut %v", i, len(r.List), cut)
		}
	}
	second := r.List[1]
	if second.Left.States[second.Left.First].Takes != kinds.Only(0) || second.Right.States[second.Right.First].Takes != kinds.Only(1) {
		t.Errorf("the sides of the second rule are not A and B: %v", second)
	}
}

func TestClassesHaveTheirCodePoints(t *testing.T) {
	got := mustRead(t, "class A=61,63-65;class b=10FFFF,0-9,eE;class 3=D7ff-0D7Ff,00E000;").Kinds
	var want kinds.Table
	for _, x := range []struct {
		first, last rune
		class       kinds.Kind
	}{{0x61, 0x61, 0}, {0x63, 0x65, 0}, {0x10FFFF, 0x10FFFF, 1}, {0, 9, 1}, {0xEE, 0xEE, 1}, {0xD7FF, 0xD7FF, 2}, {0xE000, 0xE000, 2}} {
		if !want.Add(kinds.Span{First: x.first, Last: x.last}, x.class) {
			t.Fatalf("%v may not be", x)
		}
	}
	if !reflect.DeepEqual(got, want) {
		t.Errorf("classes are %v, want %v", got, want)
	}
}

func TestAFaultLeavesNothing(t *testing.T) {
	for _, text := range []string{classes + "cut A | ; x", classes + "cut", classes + "class A", strings.Repeat(" ", api.MaxText+1)} {
		if r, e, _ := Read(text); e == api.OK || !reflect.DeepEqual(r, Rules{}) {
			t.Errorf("Read(%.60q) = %v, %d", text, r, e)
		}
	}
}
