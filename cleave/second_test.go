package cleave_test

import (
	"math/rand"
	"regexp"
	"strconv"
	"strings"
	"testing"

	"cleave/api"
	"cleave/cleave"
)

// second reads rules in another way than the program: as a row of tokens through a table of what may stand behind what, with a fault looked for at each.
type second struct {
	want        string // what is waited for
	classes     []string
	rules       int
	atoms       int
	depth       int
	right       bool
	taken       [][2]int64
	first, last int64 // of the Range
	lastHex     int   // the place of its last Hex
}

var tokens = regexp.MustCompile(`[A-Za-z0-9]+|[^ \n]`)
var wordForm = regexp.MustCompile(`^[A-Za-z0-9]+$`)
var hexForm = regexp.MustCompile(`^[0-9A-Fa-f]{1,6}$`)

func secondCompile(text string) (api.Errno, int) {
	if len(text) > api.MaxText {
		return api.ErrLong, 0
	}
	s := second{want: "class"}
	for _, span := range tokens.FindAllStringIndex(text, -1) {
		token := text[span[0]:span[1]]
		if s.spanEndsAhead(token) && s.badSpan() {
			return api.ErrRange, s.lastHex
		}
		if no := s.token(token, span[0]); no != api.OK {
			return no, span[0]
		}
	}
	if s.spanEndsAhead("") && s.badSpan() {
		return api.ErrRange, s.lastHex
	}
	if s.want != "class" && s.want != "rule" {
		return api.ErrSyntax, len(text)
	}
	return api.OK, 0
}

func (s *second) spanEndsAhead(token string) bool {
	return s.want == "behind last" || s.want == "behind first" && token != "-"
}

func (s *second) badSpan() bool {
	bad := s.last < s.first
	for _, t := range append(s.taken, [2]int64{0xD800, 0xDFFF}) {
		bad = bad || max(t[0], s.first) <= min(t[1], s.last)
	}
	s.taken = append(s.taken, [2]int64{s.first, s.last})
	return bad
}

func (s *second) token(token string, at int) api.Errno {
	switch s.want {
	case "class", "rule":
		return s.head(token)
	case "name":
		if !wordForm.MatchString(token) || strings.Contains(" class cut join any other bad ", " "+token+" ") {
			return api.ErrSyntax
		}
		for _, c := range s.classes {
			if c == token {
				return api.ErrTwice
			}
		}
		s.classes = append(s.classes, token)
		s.want = "="
		return api.OK
	case "=":
		return s.goOn(token, map[string]string{"=": "first"})
	case "first", "last":
		return s.hex(token, at)
	case "behind first":
		return s.goOn(token, map[string]string{"-": "last", ",": "first", ";": "class"})
	case "behind last":
		return s.goOn(token, map[string]string{",": "first", ";": "class"})
	}
	return s.expr(token)
}

func (s *second) goOn(token string, ways map[string]string) api.Errno {
	to, ok := ways[token]
	if !ok {
		return api.ErrSyntax
	}
	s.want = to
	return api.OK
}

func (s *second) head(token string) api.Errno {
	switch {
	case token == "class" && s.want == "class":
		if len(s.classes) == api.MaxClasses {
			return api.ErrMany
		}
		s.want = "name"
	case token == "cut" || token == "join":
		if s.rules == api.MaxRules {
			return api.ErrMany
		}
		s.rules++
		s.atoms, s.right, s.want = 0, false, "side"
	default:
		return api.ErrSyntax
	}
	return api.OK
}

func (s *second) hex(token string, at int) api.Errno {
	if !hexForm.MatchString(token) {
		return api.ErrSyntax
	}
	n, _ := strconv.ParseInt(token, 16, 64)
	if n > 0x10FFFF {
		return api.ErrRange
	}
	if s.want == "first" {
		s.first = n
	}
	s.last, s.lastHex = n, at
	s.want = "behind " + s.want
	return api.OK
}

// expr: "side" an Expr may begin, or its stop; "atom" an atom must; "sign" any sign may stand behind an atom; "more" any but a second * + ?.
func (s *second) expr(token string) api.Errno {
	behind := s.want == "sign" || s.want == "more"
	stop := s.depth == 0 && (behind || s.want == "side")
	switch {
	case token == "(":
		if s.depth == api.MaxNest {
			return api.ErrMany
		}
		s.depth++
		s.want = "atom"
	case token == ")" && behind && s.depth > 0:
		s.depth--
		s.want = "sign"
	case token == "/" && behind:
		s.want = "atom"
	case strings.Contains("*+?", token) && s.want == "sign":
		s.want = "more"
	case token == "|" && stop && !s.right:
		s.atoms, s.right, s.want = 0, true, "side"
	case token == ";" && stop && s.right:
		s.want = "rule"
	case wordForm.MatchString(token) && !strings.Contains(" class cut join ", " "+token+" "):
		if !strings.Contains(" any other bad "+strings.Join(s.classes, " ")+" ", " "+token+" ") {
			return api.ErrName
		}
		if s.atoms == api.MaxAtoms {
			return api.ErrMany
		}
		s.atoms++
		s.want = "sign"
	default:
		return api.ErrSyntax
	}
	return api.OK
}

func pick(rnd *rand.Rand, from ...string) string { return from[rnd.Intn(len(from))] }

func randomClass(rnd *rand.Rand) string {
	s := "class " + pick(rnd, "A", "B", "61", "n"+strconv.Itoa(rnd.Intn(1000)), "N"+strconv.Itoa(rnd.Intn(1000))) + "="
	for i := range 1 + rnd.Intn(3) {
		if i > 0 {
			s += ","
		}
		s += strconv.FormatInt(int64(rnd.Intn(2000)), 16)
		if rnd.Intn(12) == 0 {
			s += "-" + pick(rnd, "10", "30", "50", "70", "D7FF", "D800", "E000", "10FFFF", "110000")
		}
	}
	return s + ";"
}

func randomSide(rnd *rand.Rand, depth int) string {
	s := ""
	for i := range 1 + rnd.Intn(3) {
		if i > 0 {
			s += pick(rnd, " ", " ", "/")
		}
		if depth < 6 && rnd.Intn(4) == 0 {
			s += "(" + randomSide(rnd, depth+1) + ")"
		} else {
			s += pick(rnd, "any", "other", "bad", "any", "any", "A", "B", "61")
		}
		s += pick(rnd, "", "", "*", "+", "?")
	}
	return s
}

func randomRules(rnd *rand.Rand) string {
	s := ""
	for range rnd.Intn(8) {
		s += randomClass(rnd)
	}
	for range rnd.Intn(6) {
		left, right := "", ""
		if rnd.Intn(3) > 0 {
			left = randomSide(rnd, 0)
		}
		if rnd.Intn(3) > 0 {
			right = randomSide(rnd, 0)
		}
		s += pick(rnd, "cut ", "join ") + left + "|" + right + ";"
	}
	return s
}

// spoil changes a text at one place.
func spoil(rnd *rand.Rand, s string) string {
	at := rnd.Intn(len(s) + 1)
	upTo := min(len(s), at+rnd.Intn(3))
	return s[:at] + pick(rnd, "", " ", "\n", ";", "|", "(", ")", "*", "?", "/", "-", ",", "=", "\t", "\xc3", "class", " cut ", " any ", "A", " B ", "0") + s[upTo:]
}

func TestCompileAnswersAsASecondReaderDoes(t *testing.T) {
	rnd := rand.New(rand.NewSource(3))
	met := map[api.Errno]int{}
	for range 60000 {
		text := randomRules(rnd)
		for range rnd.Intn(3) {
			text = spoil(rnd, text)
		}
		no, at := secondCompile(text)
		checkCompile(t, fault{text, no, at})
		met[no]++
		if t.Failed() {
			return
		}
	}
	for no := api.OK; no <= api.ErrMany; no++ {
		if no != api.ErrLong && met[no] < 500 {
			t.Errorf("the texts have only %d of error %d", met[no], no)
		}
	}
}

// What stands ahead of a fault has none: it is rules, or ends too early.
func FuzzCompile(f *testing.F) {
	rnd := rand.New(rand.NewSource(5))
	for range 200 {
		f.Add(spoil(rnd, randomRules(rnd)))
	}
	f.Fuzz(func(t *testing.T, text string) {
		r, no, at := cleave.Compile(text)
		if (r != nil) != (no == api.OK) || no < api.OK || no > api.ErrMany || at < 0 || at > len(text) || no == api.OK && at != 0 {
			t.Fatalf("Compile(%q) = rules %v, %d, %d", text, r != nil, no, at)
		}
		if wantNo, wantAt := secondCompile(text); no != wantNo || at != wantAt {
			t.Fatalf("Compile(%q) = %d, %d; want %d, %d", text, no, at, wantNo, wantAt)
		}
		if no == api.OK || no == api.ErrLong {
			return
		}
		if _, ahead, place := cleave.Compile(text[:at]); ahead != api.OK && (ahead != api.ErrSyntax || place != at) {
			t.Fatalf("Compile(%q) = %d, %d, but ahead of it %d, %d", text, no, at, ahead, place)
		}
	})
}
