package cleave_test

import (
	"slices"
	"strings"
	"testing"

	"cleave/api"
	"cleave/cleave"
)

func mustCompile(t *testing.T, text string) *cleave.Rules {
	t.Helper()
	r, no, at := cleave.Compile(text)
	if no != api.OK {
		t.Fatalf("Compile(%q) = %d, %d", text, no, at)
	}
	return r
}

// checkCut wants the segments that stand between the bars.
func checkCut(t *testing.T, rules, want string) {
	t.Helper()
	text := strings.ReplaceAll(want, "|", "")
	var segments []string
	if text != "" {
		segments = strings.Split(want, "|")
	}
	if got := mustCompile(t, rules).Cut(text); !slices.Equal(got, segments) {
		t.Errorf("by %q %q is cut into %q, want %q", rules, text, got, segments)
	}
}

// P4, at ordinary rules and texts.
func TestCut(t *testing.T) {
	const letters = "class L = 61-7A, 41-5A; class D = 30-39; class M = 301; "
	for _, c := range []struct{ rules, want string }{
		{"", "a|b"},
		{"join | ;", "ab"},
		{letters + "join L | L;", "ab|1|c"},
		{lines, "one\n|two\r\n|\r|three\n|\n|four"},
		{letters + "join L / D | L / D;", "ab12|,| |c3|!"},
		{letters + "join L | M; join M | L / M;", "a\u0301b|c\u0301\u0301|1|\u0301"},
		{letters + "cut L | D; cut D | L; join | ;", "ab|12|cd- 1"},
		{letters + "join any | any any;", "abc|d"},
		{letters + "join any any | ;", "a|bcd"},
		{letters + "join L D* | D* L;", "a12b1c|2"},
		{letters + "join L (D D)* | ;", "a1|23|4b-|5"},
		{letters + "join D | D D D D;", "12|3|4|5|a"},
		{letters + "join D D D D | ;", "1|2|3|45a|b"},
		{letters + "join (L / D) other | L;", "a|.b|.|1|.|.|b|.|.|b"},
		{letters + "join L+ | D+ L; cut D | ; join D | ;", "a1|2|b|c1|d|e|1|.|2|."},
	} {
		checkCut(t, c.rules, c.want)
	}
}

// P4: none, if it has no bytes; one, if it has one character, whatever the rules say.
func TestCutOfAlmostNothing(t *testing.T) {
	for _, rules := range []string{"", "join | ;", "cut | ;", lines, "join any* | any*;", "cut bad | other;"} {
		if got := mustCompile(t, rules).Cut(""); len(got) != 0 {
			t.Errorf("by %q a text without bytes has the segments %q", rules, got)
		}
		for _, one := range []string{"a", "\n", "\x00", "é", "€", "\U0001F600", "\U0010FFFF", "\x80", "\xff", "\xe2\x82", "\xf0\x9f\x98"} {
			checkCut(t, rules, one)
		}
	}
}

// P4: where no well-formed sequence begins, the longest beginning of one is a character, for each sort of table 3-7.
func TestCutOfBadBytes(t *testing.T) {
	for _, want := range []string{
		"\x80|\xbf|a", "\xc0|\x80", "\xc1|\xbf", "\xf5|\x80|\x80|\x80", "\xff|\xfe", // what begins nothing
		"\xc2|a", "\xdf|\xc2\x80", "a|\xc2", "\xc2|\xc2", // of two bytes
		"\xe0|\x80|\x80", "\xe0|\x9f|\xbf", "\xe0\xa0|a", "\xe0\xbf|\xc2\x80", "\xe0\xa0\x80|a", "\xe0|a",
		"\xe1\x80|a", "\xec\xbf|\xe1\x80", "\xe1|\xc0", "\xe2\x82\xac|\xe2\x82",
		"\xed|\xa0|\x80", "\xed|\xbf|\xbf", "\xed\x9f|a", "\xed\x9f\xbf|a", "\xed\x80|\xed\x80\x80",
		"\xee\x80|a", "\xef\xbf|\xef\xbf\xbd|\xef\xbf\xbf", "\xee|\xee",
		"\xf0|\x80|\x80|\x80", "\xf0|\x8f|\xbf|\xbf", "\xf0\x90|a", "\xf0\x90\x80|a", "\xf0\x90\x80\x80|\x80", "\xf0\xbf\xbf|\xf0",
		"\xf1\x80|a", "\xf3\xbf\xbf|\xf1\x80\x80\x80", "\xf1|\xc0|\xf2\x80\x80",
		"\xf4|\x90|\x80|\x80", "\xf4|\xbf", "\xf4\x8f|a", "\xf4\x8f\xbf|\xf4\x8f\xbf\xbf", "\xf4\x80\x80",
		"\xf0\x9f\x98|\xf0\x9f\x98\x80|\xf0\x9f\x98",
	} {
		checkCut(t, "", want)
		checkCut(t, "join | ;", strings.ReplaceAll(want, "|", ""))
	}
}

// P4: bad characters, and those of no class, are kinds of their own.
func TestCutByKinds(t *testing.T) {
	for _, c := range []struct{ rules, want string }{
		{"join bad | bad;", "a|\xff\xe2\x82\xff|b"},
		{"join other | other;", "a\uFFFDb|\xff|\xc3|é€\U0001F600"},
		{"join any | any;", "a\xff\uFFFD\xe2\x82"},
		{"join bad | other; join other | bad;", "a\xffb|c|d\xe2\x82\uFFFD"},
		{"class R = FFFD; join R | bad;", "\uFFFD\xff|\uFFFD"},
		{"class A = 61, 63; class B = 62; class C = 64-66, 40; join A | A; join B | B; join C | C;", "aca|bb|@def|g|g"},
		{"class 61 = 62; class b = 61; join 61 | b; cut b | 61; join other | ;", "a|ba|b|b|c!b"},
		{"class E = E9; class M = 1F600-1F64F; join E | M;", "é\U0001F600|x|é|\U0001F650"},
		{"class Z = 0; class T = 10FFFF; join Z | T;", "\x00\U0010FFFF|\x00|\U0010FFFE"},
		{"class A = 0-D7FF, E000-10FFFF; join other | ; join | other; join bad | A;", "a|\xffb|\xed|\xa0é"},
	} {
		checkCut(t, c.rules, c.want)
	}
}

// P4: a side that is left out matches always; and what stands there may be matched by no character at all.
func TestCutByLittle(t *testing.T) {
	const ab = "class a = 61; class b = 62; "
	for _, c := range []struct{ rules, want string }{
		{ab + "join a | ;", "aab|b|aa"},
		{ab + "join | a;", "aa|b|ba"},
		{ab + "join | ;", "aabba"},
		{ab + "cut | ; join | ;", "a|a|b"},
		{ab + "join a* | ;", "ab!"},
		{ab + "join | b*;", "ab!"},
		{ab + "join a? | b?;", "ba!!"},
		{ab + "join ((a*)*)+ | ((b?)+)?;", "ba!!"},
		{ab + "join a b* | ;", "abb!|b|!|abb"},
		{ab + "join | b* a;", "bba|b|!bba"},
		{ab + "join a? b | a;", "ba|b|ba"},
		{ab + "join a b? | b? a;", "aaba|bb|aba"},
		{ab + "cut a / bad* | other / bad*; join | ;", "a|b|!"},
	} {
		checkCut(t, c.rules, c.want)
	}
}

// P4: of several rules that match the first one counts, and only where both its sides match.
func TestCutByTheFirstRule(t *testing.T) {
	const ab = "class a = 61; class b = 62; "
	for _, c := range []struct{ rules, want string }{
		{ab + "join a | ; cut a | ;", "aab|a"},
		{ab + "cut a | ; join a | ;", "a|a|b|a"},
		{ab + "join a a | ; cut a | a; join a | ;", "a|aab|!"},
		{ab + "cut a | b; join a | b; cut a | a; join | ;", "a|a|b!a"},
		{ab + "cut bad | ; cut | bad; cut a | a; join | ;", "a|ab|\xff|!a"},
		{ab + "join b | a; cut b* | ; join | ; join | ;", "b|ba|b"},
		{ab + "join (a / b)? other+ | ; cut a | ; join | a;", "a|b|xxa|b"},
	} {
		checkCut(t, c.rules, c.want)
	}
}
