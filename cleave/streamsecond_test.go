package cleave_test

import (
	"math/rand"
	"slices"
	"strings"
	"testing"
	"unicode/utf8"

	"cleave/api"
	"cleave/cleave"
)

// secondPending is how many bytes at the end of a text are the beginning of a character, and no more: it tries all ends that make them well-formed.
func secondPending(text string) int {
	for n := min(3, len(text)); n > 0; n-- {
		for _, end := range []string{"\x80", "\x80\x80", "\xa0\x80", "\x80\x80\x80", "\x90\x80\x80"} {
			whole := text[len(text)-n:] + end
			if utf8.ValidString(whole) && utf8.RuneCountInString(whole) == 1 {
				return n
			}
		}
	}
	return 0
}

// secondStream tells of each beginning of a text which segments a stream has told, in another way than the program: each place is looked at for itself, by what is left of the right sides behind each letter.
type secondStream struct {
	secondDelay
	lettersOf func(text string) (string, []int)
}

func makeSecondStream(s secondRules, full bool) secondStream {
	second := secondStream{secondDelay{s, "ABox", map[string]*secondView{}}, secondLetters}
	if full {
		second.text = strings.Replace(s.text, secondClasses, fullClasses, 1)
		second.letters = "ABx"
		second.lettersOf = fullLetters
	}
	second.starts()
	second.settle()
	return second
}

func fullLetters(text string) (string, []int) {
	return secondLettersBy(text, func(code rune) string {
		if code == 'a' || 'c' <= code && code <= 0xD7FF {
			return "A"
		}
		return "B"
	})
}

// viewAt is what is known of a place, with all the letters known.
func (s *secondStream) viewAt(letters string, place int) *secondView {
	var rights langs
	for _, r := range s.rules {
		right := nothing()
		if r.left.MatchString(letters[:place]) {
			right = langOfPattern(r.right.String())
		}
		rights = append(rights, right)
	}
	v := s.views["end, "+rights.key()]
	for _, letter := range letters[place:] {
		v = v.next[strings.IndexRune(s.letters, letter)]
	}
	return v
}

func (s *secondStream) told(text string) []string {
	letters, sizes := s.lettersOf(text[:len(text)-secondPending(text)])
	var told []string
	begin, end := 0, 0
	for i, size := range sizes {
		end += size
		v := s.viewAt(letters, i+1)
		if v.mayCut && v.mayJoin {
			break
		}
		if v.mayCut {
			told = append(told, text[begin:end])
			begin = end
		}
	}
	return told
}

// randomPieces cuts a text into pieces, of which some are empty.
func randomPieces(rnd *rand.Rand, text string) []string {
	var pieces []string
	for most := 1 + rnd.Intn(6); text != ""; {
		n := min(rnd.Intn(most+1), len(text))
		pieces = append(pieces, text[:n])
		text = text[n:]
	}
	return pieces
}

// P6 and P7, at random rules, texts, pieces and fulls: what is told is told at once when it is settled, and no sooner.
func TestStreamsAreAsTheOtherWay(t *testing.T) {
	rnd := rand.New(rand.NewSource(9))
	met := map[api.Errno]int{}
	for i := range 1200 {
		rules := twoRules(rnd)
		if len(rules.text) > api.MaxText {
			continue
		}
		second := makeSecondStream(rules, i%4 == 0)
		r := mustCompile(t, second.text)
		for range 6 {
			text := randomText(rnd, rnd.Intn(12))
			full := []int{1, 2, 3, 5, 8, 100, api.MaxFull}[rnd.Intn(7)]
			met[checkRandomStream(t, &second, r, full, randomPieces(rnd, text))]++
			if t.Failed() {
				return
			}
		}
	}
	if met[api.OK] < 1000 || met[api.ErrFull] < 1000 {
		t.Errorf("the streams end with %v", met)
	}
}

func checkRandomStream(t *testing.T, second *secondStream, r *cleave.Rules, full int, pieces []string) api.Errno {
	t.Helper()
	s := mustOpen(t, r, full)
	text := ""
	var all []string
	for i, piece := range pieces {
		text += piece
		told, no := s.Write([]byte(piece))
		all = append(all, told...)
		want := second.told(text)
		wantNo := api.OK
		if len(text)-len(strings.Join(want, "")) > full {
			wantNo = api.ErrFull
		}
		if !slices.Equal(all, want) || no != wantNo {
			t.Errorf("by %q, %d bytes full, behind %q: %q, %d; want %q, %d", second.text, full, pieces[:i+1], all, no, want, wantNo)
		}
		if no != api.OK {
			checkWrite(t, s, "a", "", no)
			checkClose(t, s, "", no)
			return no
		}
	}
	told, no := s.Close()
	if all = append(all, told...); !slices.Equal(all, r.Cut(text)) || no != api.OK {
		t.Errorf("by %q of %q: %q, %d; want %q", second.text, pieces, all, no, r.Cut(text))
	}
	return no
}

// shownPlaces tells by Cut of all short texts what may come of each place, and holds streams against that.
type shownPlaces struct {
	rules  *cleave.Rules
	these  []string
	length int // of the longest texts
	asked  int // of the longest texts of which streams are asked
}

// look answers bits for the places at which the text is cut, and at which it is not, whatever of the longer texts comes.
func (p *shownPlaces) look(t *testing.T, text []string) (mayCut, mayJoin int) {
	for place := 1; place <= len(text); place++ {
		mayJoin |= 1 << place
	}
	end := 0
	for _, segment := range p.rules.Cut(strings.Join(text, "")) {
		end += utf8.RuneCountInString(segment)
		mayCut |= 1 << end
	}
	mayJoin &^= mayCut
	if len(text) < p.length {
		for _, c := range p.these {
			cut, join := p.look(t, append(text[:len(text):len(text)], c))
			mayCut, mayJoin = mayCut|cut, mayJoin|join
		}
	}
	if len(text) <= p.asked {
		p.check(t, text, mayCut, mayJoin)
	}
	return mayCut, mayJoin
}

func (p *shownPlaces) check(t *testing.T, text []string, mayCut, mayJoin int) {
	var want, got []string
	segment := ""
	for i, c := range text {
		bit := 1 << (i + 1)
		if mayCut&mayJoin&bit != 0 {
			break
		}
		if segment += c; mayCut&bit != 0 {
			want = append(want, segment)
			segment = ""
		}
	}
	s, _ := p.rules.Open(100)
	for _, c := range text {
		told, _ := s.Write([]byte(c))
		got = append(got, told...)
	}
	if !slices.Equal(got, want) {
		t.Errorf("behind %q %q is told, but Cut shows that it is %q", text, got, want)
	}
}

// P6: what is told is what Cut of all that may come agrees on, no more and no less.
func TestStreamsTellWhatCutShows(t *testing.T) {
	for _, list := range [][]delayCase{ordinaryDelays, endlessDelays, littleDelays, sameDelays, endDelays, leftDelays} {
		for _, c := range list {
			p := shownPlaces{mustCompile(t, c.rules), []string{"a", "b", "!"}, 8, 4}
			if strings.HasPrefix(c.rules, "class R") {
				p.these = []string{"\r", "\n", "!"}
			}
			if strings.Contains(c.rules, "bad") {
				p.these, p.length, p.asked = append(p.these, "\xff"), 7, 3
			}
			if strings.HasPrefix(c.rules, all) {
				p.these = []string{"a", "b", "\xff"}
			}
			p.look(t, nil)
			if t.Failed() {
				t.Fatalf("by %q", c.rules)
			}
		}
	}
}

// P8: all segments of a stream that is closed are those of Cut, in however many pieces the bytes come.
func TestStreamsTellWhatCutTells(t *testing.T) {
	rnd := rand.New(rand.NewSource(10))
	for range 1500 {
		s := twoRules(rnd)
		if len(s.text) > api.MaxText {
			continue
		}
		r := mustCompile(t, s.text)
		text := randomText(rnd, rnd.Intn(60))
		want := r.Cut(text)
		for _, pieces := range [][]string{{text}, randomPieces(rnd, text), {"", text, ""}, splitBytes(text)} {
			if got := wholeStream(t, r, pieces); !slices.Equal(got, want) {
				t.Fatalf("by %q of %q: %q, want %q", s.text, pieces, got, want)
			}
		}
	}
}

func splitBytes(text string) []string {
	var pieces []string
	for i := range len(text) {
		pieces = append(pieces, text[i:i+1])
	}
	return pieces
}

func wholeStream(t *testing.T, r *cleave.Rules, pieces []string) []string {
	t.Helper()
	s := mustOpen(t, r, api.MaxFull)
	var all []string
	for _, piece := range pieces {
		told, no := s.Write([]byte(piece))
		if no != api.OK {
			t.Fatalf("Write(%q) = %d", piece, no)
		}
		all = append(all, told...)
	}
	told, no := s.Close()
	if no != api.OK {
		t.Fatalf("Close() = %d", no)
	}
	return append(all, told...)
}

// P8: where Delay is k, each place is settled when k characters behind it are known: so what is cut there is told.
func TestStreamsWaitNoLongerThanDelay(t *testing.T) {
	rnd := rand.New(rand.NewSource(11))
	met := map[int]int{}
	for range 3000 {
		s := twoRules(rnd)
		if len(s.text) > api.MaxText {
			continue
		}
		r := mustCompile(t, s.text)
		k := r.Delay()
		if met[k]++; k < 0 {
			continue
		}
		text := randomText(rnd, 20)
		_, sizes := secondLetters(text)
		checkDelay(t, r, k, text, sizes)
		if t.Failed() {
			t.Fatalf("by %q, whose Delay is %d", s.text, k)
		}
	}
	for k := range 4 {
		if met[k] == 0 {
			t.Errorf("no rules met whose Delay is %d: %v", k, met)
		}
	}
}

func checkDelay(t *testing.T, r *cleave.Rules, k int, text string, sizes []int) {
	t.Helper()
	s := mustOpen(t, r, api.MaxFull)
	segments := r.Cut(text)
	told, known := 0, 0
	for i, size := range sizes {
		list, _ := s.Write([]byte(text[known : known+size]))
		told += len(list)
		known += size
		if secondPending(text[:known]) > 0 {
			continue
		}
		settled := 0
		for _, size := range sizes[:max(i+1-k, 0)] {
			settled += size
		}
		want := 0
		for bytes := 0; want < len(segments); want++ {
			if bytes += len(segments[want]); bytes > settled {
				break
			}
		}
		if told < want {
			t.Errorf("behind %q %d segments of %q are told, want %d at least", text[:known], told, segments, want)
		}
	}
}

// P8, and what holds of every stream: what is told is of the text, in order, and a full stream is one that has told too little.
func FuzzStream(f *testing.F) {
	for i, rules := range append(someRules(), streamRules()...) {
		for j, text := range append(someTexts(), streamText) {
			f.Add(rules, text, uint8(i+j), 1+1000*i)
		}
	}
	f.Fuzz(func(t *testing.T, rules, text string, size uint8, full int) {
		r, no, _ := cleave.Compile(rules)
		if no != api.OK {
			return
		}
		s, no := r.Open(full)
		if (s != nil) != (no == api.OK) || (no == api.OK) != (1 <= full && full <= api.MaxFull) {
			t.Fatalf("Open(%d) = stream %v, %d", full, s != nil, no)
		}
		if s == nil {
			return
		}
		whole := r.Cut(text)
		told, taken := 0, 0
		check := func(list []string) {
			if told+len(list) > len(whole) || !slices.Equal(list, whole[told:told+len(list)]) {
				t.Fatalf("by %q of %q %q is told behind %d segments, want %q", rules, text, list, told, whole)
			}
			told += len(list)
		}
		for piece := range slices.Chunk([]byte(text), 1+int(size)) {
			taken += len(piece)
			list, no := s.Write(piece)
			check(list)
			if untold := taken - len(strings.Join(whole[:told], "")); (no == api.ErrFull) != (untold > full) {
				t.Fatalf("by %q of %q %d bytes are untold: %d", rules, text, untold, no)
			}
			if no != api.OK {
				return
			}
		}
		list, no := s.Close()
		check(list)
		if told != len(whole) || no != api.OK {
			t.Fatalf("by %q of %q %d of %d segments are told: %d", rules, text, told, len(whole), no)
		}
	})
}
