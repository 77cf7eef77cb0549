package cleave_test

import (
	"math/rand"
	"regexp"
	"slices"
	"strings"
	"testing"
	"unicode/utf8"

	"cleave/api"
	"cleave/cleave"
)

// secondRules cut texts in another way than the program: each place is looked at for itself, by regular expressions on a row of letters, one for each character.
type secondRules struct {
	text  string
	rules []secondRule
}

type secondRule struct {
	cut         bool
	left, right *regexp.Regexp
}

// secondClasses give the letters A and B to classes; other is o, bad is x.
const secondClasses = "class A = 61, 63, 1F600-1F64F; class B = 62, E9; "

func secondLetters(text string) (letters string, sizes []int) {
	return secondLettersBy(text, func(code rune) string {
		switch {
		case code == 'a' || code == 'c' || 0x1F600 <= code && code <= 0x1F64F:
			return "A"
		case code == 'b' || code == 0xE9:
			return "B"
		}
		return "o"
	})
}

func secondLettersBy(text string, letterOf func(code rune) string) (letters string, sizes []int) {
	for len(text) > 0 {
		code, size := utf8.DecodeRuneInString(text)
		letter := ""
		if code == utf8.RuneError && size == 1 {
			letter, size = "x", secondBadSize(text)
		} else {
			letter = letterOf(code)
		}
		letters += letter
		sizes = append(sizes, size)
		text = text[size:]
	}
	return letters, sizes
}

// secondBadSize tries all ends that make a beginning well-formed.
func secondBadSize(text string) int {
	for n := min(3, len(text)); n > 1; n-- {
		for _, end := range []string{"\x80", "\x80\x80"} {
			if utf8.RuneCountInString(text[:n]+end) == 1 {
				return n
			}
		}
	}
	return 1
}

func (s secondRules) cutsAt(letters string, at int) bool {
	for _, r := range s.rules {
		if r.left.MatchString(letters[:at]) && r.right.MatchString(letters[at:]) {
			return r.cut
		}
	}
	return true
}

func (s secondRules) cut(text string) []string {
	var segments []string
	letters, sizes := secondLetters(text)
	end, begin := 0, 0
	for i, size := range sizes {
		end += size
		if i+1 == len(sizes) || s.cutsAt(letters, i+1) {
			segments = append(segments, text[begin:end])
			begin = end
		}
	}
	return segments
}

// twoSides is an Expr, or nothing, and the regular expression that means the same.
func twoSides(rnd *rand.Rand) (expr, pattern string) {
	if rnd.Intn(5) == 0 {
		return "", ""
	}
	return twoExprs(rnd, 1+rnd.Intn(api.MaxAtoms), rnd.Intn(api.MaxNest+1))
}

func twoExprs(rnd *rand.Rand, atoms, depth int) (expr, pattern string) {
	for atoms > 0 {
		n, i := 1, rnd.Intn(5)
		atom := []string{"A", "B", "any", "other", "bad"}[i]
		same := []string{"A", "B", "[ABox]", "o", "x"}[i]
		if depth > 0 && rnd.Intn(3) == 0 {
			n = 1 + rnd.Intn(atoms)
			inner, meant := twoExprs(rnd, n, depth-1)
			atom, same = "("+inner+")", "(?:"+meant+")"
		}
		atoms -= n
		times := []string{"", "", "*", "+", "?"}[rnd.Intn(5)]
		expr, pattern = expr+atom+times+" ", pattern+same+times
		if atoms > 0 && rnd.Intn(4) == 0 {
			expr, pattern = expr+"/ ", pattern+"|"
		}
	}
	return expr, pattern
}

func twoRules(rnd *rand.Rand) secondRules {
	s := secondRules{text: secondClasses}
	for range rnd.Intn(api.MaxRules + 1) {
		left, leftMeant := twoSides(rnd)
		right, rightMeant := twoSides(rnd)
		word := []string{"cut", "join", "join"}[rnd.Intn(3)]
		s.text += word + " " + left + "|" + right + ";"
		s.rules = append(s.rules, secondRule{word == "cut", regexp.MustCompile("(?:" + leftMeant + ")$"), regexp.MustCompile("^(?:" + rightMeant + ")")})
	}
	return s
}

func randomText(rnd *rand.Rand, n int) string {
	pieces := []string{"a", "b", "c", "é", "\U0001F600", "!", "€", "\U0010FFFF", "\uFFFD", "\xff", "\x80", "\xe2\x82", "\xf0\x9f\x98", "\xf0", "\xed", "\xa0", "\xc3", "\xe0\xa0"}
	var text strings.Builder
	for range n {
		if rnd.Intn(3) > 0 {
			text.WriteString(pieces[rnd.Intn(3)])
			continue
		}
		text.WriteString(pieces[rnd.Intn(len(pieces))])
	}
	return text.String()
}

// P4, at random rules and texts.
func TestCutIsAsTheOtherWay(t *testing.T) {
	rnd := rand.New(rand.NewSource(4))
	for range 2000 {
		s := twoRules(rnd)
		if len(s.text) > api.MaxText {
			continue
		}
		r := mustCompile(t, s.text)
		for range 10 {
			text := randomText(rnd, rnd.Intn(14))
			if got, want := r.Cut(text), s.cut(text); !slices.Equal(got, want) {
				t.Fatalf("by %q %q is cut into %q, want %q", s.text, text, got, want)
			}
		}
	}
}

// P4: each segment has a byte at least, and all one behind the other are the text.
func FuzzCut(f *testing.F) {
	for _, rules := range someRules() {
		for _, text := range someTexts() {
			f.Add(rules, text)
		}
	}
	f.Fuzz(func(t *testing.T, rules, text string) {
		r, no, _ := cleave.Compile(rules)
		if no != api.OK {
			return
		}
		segments := r.Cut(text)
		if strings.Join(segments, "") != text || slices.Contains(segments, "") {
			t.Errorf("by %q %q is cut into %q", rules, text, segments)
		}
	})
}
