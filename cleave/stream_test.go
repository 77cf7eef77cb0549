package cleave_test

import (
	"math"
	"slices"
	"strings"
	"testing"

	"cleave/api"
	"cleave/cleave"
)

func mustOpen(t *testing.T, r *cleave.Rules, full int) *cleave.Stream {
	t.Helper()
	s, no := r.Open(full)
	if s == nil || no != api.OK {
		t.Fatalf("Open(%d) = stream %v, %d", full, s != nil, no)
	}
	return s
}

// split has the segments that stand between the bars.
func split(segments string) []string {
	if segments == "" {
		return nil
	}
	return strings.Split(segments, "|")
}

func checkWrite(t *testing.T, s *cleave.Stream, piece, told string, want api.Errno) {
	t.Helper()
	if got, no := s.Write([]byte(piece)); !slices.Equal(got, split(told)) || no != want {
		t.Errorf("Write(%.40q) = %.80q, %d; want %.80q, %d", piece, got, no, split(told), want)
	}
}

func checkClose(t *testing.T, s *cleave.Stream, told string, want api.Errno) {
	t.Helper()
	if got, no := s.Close(); !slices.Equal(got, split(told)) || no != want {
		t.Errorf("Close() = %.80q, %d; want %.80q, %d", got, no, split(told), want)
	}
}

// streamCase has pieces, and behind each of them what is told then; at last what Close tells.
type streamCase struct {
	rules string
	steps []string
}

func checkStreams(t *testing.T, cases ...streamCase) {
	t.Helper()
	for _, c := range cases {
		s := mustOpen(t, mustCompile(t, c.rules), 100)
		last := len(c.steps) - 1
		for i := 0; i < last; i += 2 {
			checkWrite(t, s, c.steps[i], c.steps[i+1], api.OK)
		}
		checkClose(t, s, c.steps[last], api.OK)
		if t.Failed() {
			t.Fatalf("by %q of %q", c.rules, c.steps)
		}
	}
}

// P6, at ordinary rules and texts.
func TestStreams(t *testing.T) {
	const letters = "class L = 61-7A, 41-5A; class D = 30-39; "
	checkStreams(t,
		streamCase{"", []string{"a", "a", "bc", "b|c", ""}},
		streamCase{"cut | ;", []string{"ab", "a|b", ""}},
		streamCase{"join | ;", []string{"ab", "", "c", "", "abc"}},
		streamCase{letters + "join L | L;", []string{"ab1", "ab|1", "c", "", "c"}},
		streamCase{letters + "join L | L;", []string{"a", "", "b", "", " ", "ab| ", "c", "", "d", "", "cd"}},
		streamCase{lines, []string{"one\n", "one\n", "two\r", "", "\nthree", "two\r\n", "\r", "", "\r", "three\r", "x", "\r", "x"}},
		streamCase{letters + "join L | D D D;", []string{"a", "", "1", "", "2", "", "b", "a|1|2", "123", "b1|2|3", ""}},
		streamCase{letters + "cut L | D; cut D | L; join | ;", []string{"ab", "", "1", "ab", "2-", "", "c1", "12-c", "1"}},
		streamCase{letters + "join L+ | D* L;", []string{"a", "", "12", "", "3", "", "b", "a1|2|3", "!", "b|!", ""}},
		streamCase{letters + "join L D | ; join | D L;", []string{"a", "", "1", "", "b", "", "a1b"}},
	)
}

// P6: a place that is not settled holds back all that is behind it, though it is settled.
func TestStreamsTellInOrder(t *testing.T) {
	checkStreams(t,
		streamCase{ab + "join a | b* a;", []string{"xa", "x", "bbb", "", "x", "a|b|b|b|x", "abbb", "", "a", "ab|b|b", "a"}},
		streamCase{ab + "join a | b* a; join bad | any any any;", []string{"\xffab", "", "x", "\xffa|b|x", ""}},
		streamCase{ab + "join bad | any* bad; join a | a;", []string{"aa!\xffaa!aa", "aa|!", "!", "", "a\xff", "\xffaa|!|aa|!|a", "\xff"}},
		streamCase{ab + "join bad | any* a; cut b | ;", []string{"\xff!b\xffb", "", "b", "", "ab", "\xff!|b|\xffb|b|a|b", ""}},
	)
}

// P6: what was written and told does not hang on the pieces: empty ones change nothing, and byte by byte each segment comes at its byte.
func TestStreamsTakeAnyPieces(t *testing.T) {
	checkStreams(t,
		streamCase{"", []string{""}},
		streamCase{"join | ;", []string{"", "", "", "", ""}},
		streamCase{"", []string{"", "", "a", "a", "", "", "", "", "b", "b", "", "", ""}},
		streamCase{lines, []string{"", "", "a\r", "", "", "", "\n", "a\r\n", "", "", "b", "", "", "", "b"}},
		streamCase{lines, []string{"a", "", "\r", "", "\n", "a\r\n", "b", "", "\n", "b\n", "\n", "\n", ""}},
		streamCase{lines, []string{"a\r\nb\n\n", "a\r\n|b\n|\n", ""}},
		streamCase{ab + "join a | b b;", []string{"a", "", "b", "", "", "", "b", "ab|b", "a", "", "b", "", "a", "a|b", "a"}},
	)
	s := mustOpen(t, mustCompile(t, "join | ;"), 10)
	for _, none := range [][]byte{nil, {}, make([]byte, 0, 10)} {
		if got, no := s.Write(none); len(got) != 0 || no != api.OK {
			t.Errorf("Write of nothing = %q, %d", got, no)
		}
	}
}

// P6: a character is known when its last byte has come, and the bytes of one that is not known yet are not looked at.
func TestStreamsWaitForWholeCharacters(t *testing.T) {
	checkStreams(t,
		streamCase{"", []string{"\xe2", "", "\x82", "", "\xac", "€", "\xc3", "", "\xa9", "é", ""}},
		streamCase{"", []string{"\xf0", "", "\x9f", "", "\x98", "", "\x80", "\U0001F600", ""}},
		streamCase{"", []string{"a\xf0\x9f", "a", "\x98\x80b", "\U0001F600|b", ""}},
		streamCase{"", []string{"\xef", "", "\xbf", "", "\xbd", "\uFFFD", ""}},
		streamCase{"", []string{"\xf4", "", "\x8f", "", "\xbf", "", "", "", "\xbf", "\U0010FFFF", ""}},
		// No character of two bytes or more is a: still, as long as it is not known, one may come.
		streamCase{ab + "join a | a;", []string{"a", "", "\xe2", "", "\x82", "", "\xac", "a|€", ""}},
		streamCase{ab + "join a | a;", []string{"aa\xc3", "", "\xa9", "aa|é", ""}},
		streamCase{ab + "join a | other;", []string{"a", "", "\xf0\x9f\x98", "", "\x80", "a\U0001F600", ""}},
		streamCase{"join other | other; join bad | bad;", []string{"a\xe2\x82", "", "\xe2", "a", "\x82", "", "\xac", "\xe2\x82", "€"}},
		streamCase{"class E = E9; join E | E E;", []string{"é\xc3", "", "\xa9\xc3", "", "\xa9", "", "\xc3", "", "éé|é|\xc3"}},
	)
}

// P6: a character is known as soon as its bytes tell that it is a bad one.
func TestStreamsKnowBadCharactersAtOnce(t *testing.T) {
	checkStreams(t,
		streamCase{"", []string{"\xff", "\xff", "\x80", "\x80", "\xc0", "\xc0", "\xc1", "\xc1", "\xf5", "\xf5", "\xbf\xfe", "\xbf|\xfe", ""}},
		streamCase{"", []string{"\xe2", "", "a", "\xe2|a", "\xe2\x82", "", "a", "\xe2\x82|a", "\xf0\x9f\x98", "", "a", "\xf0\x9f\x98|a", ""}},
		streamCase{"", []string{"\xe2", "", "\xe2", "\xe2", "\x82", "", "\xf0", "\xe2\x82", "\xff", "\xf0|\xff", ""}},
		streamCase{"", []string{"\xe0", "", "\x9f", "\xe0|\x9f", "\xe0", "", "\xa0", "", "\x80", "\u0800", ""}},
		streamCase{"", []string{"\xed", "", "\xa0", "\xed|\xa0", "\xed", "", "\x9f", "", "\xbf", "\uD7FF", ""}},
		streamCase{"", []string{"\xf0", "", "\x8f", "\xf0|\x8f", "\xf0", "", "\x90", "", "\x80\x80", "\U00010000", ""}},
		streamCase{"", []string{"\xf4", "", "\x90", "\xf4|\x90", "\xf4", "", "\x8f", "", "\xc3", "\xf4\x8f", "\xa9", "é", ""}},
		streamCase{"join bad | bad;", []string{"\xff", "", "\xe2", "", "\x82", "", "a", "\xff\xe2\x82|a", ""}},
		streamCase{ab + "join a | bad;", []string{"a", "", "\xff", "a\xff", "a\xed", "", "\xa0", "a\xed|\xa0", ""}},
	)
}

// P6: at Close the beginning of a character is a bad one.
func TestCloseTakesABeginningForBad(t *testing.T) {
	checkStreams(t,
		streamCase{"", []string{"\xe2", "", "\xe2"}},
		streamCase{"", []string{"a\xe2\x82", "a", "\xe2\x82"}},
		streamCase{"", []string{"\xf0\x9f", "", "\x98", "", "\xf0\x9f\x98"}},
		streamCase{"join | ;", []string{"\xf0\x9f", "", "", "", "\xf0\x9f"}},
		streamCase{"join | ;", []string{"a\xf0\x9f", "", "a\xf0\x9f"}},
		streamCase{"cut | bad; join | ;", []string{"ab\xf0\x9f", "", "ab|\xf0\x9f"}},
		streamCase{"join bad | bad;", []string{"\xff\xe2\x82", "", "\xff\xe2\x82"}},
		streamCase{"join other | bad;", []string{"é\xe2", "", "é\xe2"}},
		streamCase{ab + "join a | b* bad;", []string{"abb\xc3", "", "ab|b|\xc3"}},
	)
}

// P6: the place right behind the last known character is settled if it is cut whatever comes; if the text ends there, it is cut.
func TestStreamsTellRightBehindTheLastCharacter(t *testing.T) {
	checkStreams(t,
		streamCase{ab + "join a | a;", []string{"b", "b", "a", "", "b", "a|b", ""}},
		streamCase{ab + "cut b | ; join | ;", []string{"a", "", "b", "ab", "b", "b", "a", "", "a"}},
		streamCase{"join | any;", []string{"a", "", "b", "", "ab"}},
		streamCase{"join any | ;", []string{"a", "", "a"}},
		streamCase{"cut any | ; join | ;", []string{"a", "a", "b", "b", ""}},
		streamCase{"cut | any; join | ;", []string{"a", "a", "b", "b", ""}},
		streamCase{"join any any | ;", []string{"a", "a", "b", "", "c", "", "bc"}},
		streamCase{"join | any any;", []string{"a", "", "b", "", "c", "", "d", "", "abc|d"}},
	)
}

// P6: that a rule can still match is no matter, if it says the same as what would count without it.
func TestStreamsDoNotWaitForWhatSaysTheSame(t *testing.T) {
	checkStreams(t,
		streamCase{ab + "cut a | b b b;", []string{"a", "a", "b", "b", ""}},
		streamCase{ab + "cut a | b* a; cut | ;", []string{"ab", "a|b", ""}},
		streamCase{ab + "cut a | b* a; join b | ;", []string{"a", "a", "b", "", "b"}},
		streamCase{ab + "join a | b* a; join a | ;", []string{"a", "", "b", "ab", ""}},
		streamCase{ab + "join a | b* a; cut a | b; join a | b b; cut b | ;", []string{"ab", "", "x", "a|b|x", ""}},
		streamCase{ab + "join a | b b b; join a | b b b b; cut | ;", []string{"abb", "", "b", "ab|b|b", ""}},
		streamCase{ab + "cut a | a b a; join a | b; cut | ;", []string{"aa", "a", "b", "ab", ""}},
		streamCase{ab + "cut | any any; join | b* a;", []string{"x", "", "b", "x", "a", "", "!", "b|a", "!"}},
	)
}

// P6: no character is other, if every code point is in a class.
func TestStreamsKnowThatNoneIsOther(t *testing.T) {
	checkStreams(t,
		streamCase{all + "join a | other any* b;", []string{"a", "a", "b", "b", ""}},
		streamCase{ab + "join a | other any* b;", []string{"a", "", "b", "a|b", ""}},
		streamCase{all + "cut | bad; cut | a; cut | b; join | any any;", []string{"a", "a", "é", "é", "\xff", "\xff", ""}},
		streamCase{ab + "cut | bad; cut | a; cut | b; join | any any;", []string{"a", "", "b", "a", "!", "", "!", "", "b!|!"}},
		streamCase{all + "join a | other; join a | bad;", []string{"a", "", "\xff", "a\xff", ""}},
	)
}

// P6: Open takes a full of 1 to MaxFull, and no other.
func TestOpen(t *testing.T) {
	r := mustCompile(t, "join | ;")
	for _, full := range []int{math.MinInt, -api.MaxFull, -1, 0, api.MaxFull + 1, 1 << 32, math.MaxInt} {
		if s, no := r.Open(full); s != nil || no != api.ErrLong {
			t.Errorf("Open(%d) = stream %v, %d", full, s != nil, no)
		}
	}
	for _, full := range []int{1, 2, 100, api.MaxFull - 1, api.MaxFull} {
		s := mustOpen(t, r, full)
		text := strings.Repeat("a", full)
		checkWrite(t, s, text, "", api.OK)
		checkClose(t, s, text, api.OK)
		s = mustOpen(t, r, full)
		checkWrite(t, s, text+"a", "", api.ErrFull)
	}
}

// checkFull wants a stream that takes no more.
func checkFull(t *testing.T, s *cleave.Stream) {
	t.Helper()
	for range 2 {
		for _, piece := range append(someTexts(), " ", "\n") {
			checkWrite(t, s, piece, "", api.ErrFull)
		}
		checkClose(t, s, "", api.ErrFull)
	}
}

// P7: exactly full bytes may be left untold; with one more the stream is full, and what can be told is told beside.
func TestFull(t *testing.T) {
	const words = "class L = 61-7A; join L | L;"
	for _, c := range []struct {
		rules        string
		full         int
		fits         string // what leaves full bytes untold
		fitsTold     string
		tooMany      string // what leaves one more
		tooManyTold  string
		closeInstead string
	}{
		{"join | ;", 1, "a", "", "b", "", "a"},
		{"join | ;", 3, "abc", "", "d", "", "abc"},
		{words, 3, "1 abc", "1| ", "d", "", "abc"},
		{words, 3, "1 abc", "1| ", " defg", "abc| ", "abc"},
		{lines, 4, "a\nabc\r", "a\n", "\nabcde", "abc\r\n", "abc\r"},
		// The bytes of characters that are not known yet, or of several bytes, count too.
		{"", 1, "a\xf0", "a", "\x9f", "", "\xf0"},
		{"", 2, "abc\xf0\x9f", "a|b|c", "\x98", "", "\xf0\x9f"},
		{"", 2, "\xe2\x82", "", "\xac\xf0\x9f\x98", "€", "\xe2\x82"},
		{"join | ;", 4, "é\xf0\x9f", "", "\x98", "", "é\xf0\x9f"},
		{"join | ;", 4, "éé", "", "é", "", "éé"},
		// So do settled places behind one that is not.
		{ab + "join a | b* a;", 4, "abbb", "", "b", "", "a|b|b|b"},
		{ab + "join a | b* a;", 4, "abbb", "", "a!abbbb", "ab|b|b|a|!", "a|b|b|b"},
	} {
		r := mustCompile(t, c.rules)
		s := mustOpen(t, r, c.full)
		checkWrite(t, s, c.fits, c.fitsTold, api.OK)
		checkWrite(t, s, "", "", api.OK)
		checkWrite(t, s, c.tooMany, c.tooManyTold, api.ErrFull)
		checkFull(t, s)
		s = mustOpen(t, r, c.full)
		checkWrite(t, s, c.fits, c.fitsTold, api.OK)
		checkClose(t, s, c.closeInstead, api.OK)
		checkClosed(t, s)
		if t.Failed() {
			t.Fatalf("by %q, %d bytes full", c.rules, c.full)
		}
	}
}

// P7: what a Write leaves counts, not what it brings, nor what is untold on the way.
func TestFullIsWhatAWriteLeaves(t *testing.T) {
	s := mustOpen(t, mustCompile(t, ""), 1)
	for range 3 {
		if got, no := s.Write([]byte(strings.Repeat("ab", api.MaxFull))); len(got) != 2*api.MaxFull || no != api.OK {
			t.Errorf("Write = %d segments, %d", len(got), no)
		}
	}
	checkClose(t, s, "", api.OK)
	s = mustOpen(t, mustCompile(t, ab+"join a | b* a;"), 1)
	checkWrite(t, s, "abbbbbbbbbb!a", "a|b|b|b|b|b|b|b|b|b|b|!", api.OK)
	checkWrite(t, s, "bbb!", "a|b|b|b|!", api.OK)
	checkWrite(t, s, "ab", "", api.ErrFull)
	checkFull(t, s)
	long := strings.Repeat("a", 3*api.MaxFull)
	s = mustOpen(t, mustCompile(t, lines), 1)
	checkWrite(t, s, long+"\n", long+"\n", api.OK)
	checkWrite(t, s, long, "", api.ErrFull)
	checkFull(t, s)
}

// P7: full is reached in many pieces as in one.
func TestFullInManyPieces(t *testing.T) {
	for _, full := range []int{1, 7, api.MaxFull} {
		s := mustOpen(t, mustCompile(t, ab+"join a | b* a;"), full)
		checkWrite(t, s, "a", "", api.OK)
		for range full - 1 {
			checkWrite(t, s, "b", "", api.OK)
		}
		checkWrite(t, s, "b", "", api.ErrFull)
		checkFull(t, s)
	}
}

func checkClosed(t *testing.T, s *cleave.Stream) {
	t.Helper()
	for range 2 {
		checkClose(t, s, "", api.ErrClosed)
		for _, piece := range append(someTexts(), " ", "\n", strings.Repeat("a", api.MaxFull+1)) {
			checkWrite(t, s, piece, "", api.ErrClosed)
		}
	}
}

// P7: behind a Close there is nothing more.
func TestClosed(t *testing.T) {
	for _, rules := range []string{"", "join | ;", lines} {
		for _, text := range someTexts() {
			r := mustCompile(t, rules)
			s := mustOpen(t, r, api.MaxFull)
			told, no := s.Write([]byte(text))
			rest, noAtClose := s.Close()
			if no != api.OK || noAtClose != api.OK || !slices.Equal(append(told, rest...), r.Cut(text)) {
				t.Errorf("by %q %.40q: %d, %d", rules, text, no, noAtClose)
			}
			checkClosed(t, s)
		}
	}
}

// P1: what Open gave beside an error, and what it gave of the rules that Compile gave beside one, takes nothing.
func TestStreamsOfNothingAreClosed(t *testing.T) {
	none, _ := mustCompile(t, "").Open(0)
	checkClosed(t, none)
	faulty, _, _ := cleave.Compile("cut")
	if s, no := faulty.Open(0); s != nil || no != api.ErrLong {
		t.Errorf("Open(0) = stream %v, %d", s != nil, no)
	}
	checkClosed(t, mustOpen(t, faulty, 1))
}
