package cleave_test

import (
	"math/rand"
	"strings"
	"sync"
	"testing"

	"cleave/api"
	"cleave/cleave"
)

const ab = "class a = 61; class b = 62; "

// all has every code point that characters have, so that none is other.
const all = "class a = 61; class b = 0-60, 62-D7FF, E000-10FFFF; "

type delayCase struct {
	rules string
	want  int
}

// ordinaryDelays are of rules that look at some characters, and at no more.
var ordinaryDelays = []delayCase{
	{ab + "join a | a;", 1},
	{ab + "join a | b b b;", 3},
	{ab + "join a b | b a / b;", 1},
	{ab + "join a | a; join a | b b;", 2},
	{ab + "join a | b b / a;", 2},
	{ab + "join a | b b? a;", 3},
	{ab + "join a* b | a;", 1},
	{ab + "join bad bad | bad;", 1},
	{ab + "cut a | a b a; join | ;", 3},
	{ab + "cut a | b a; cut b | ; join | b;", 2},
	{ab + "join b | other any bad;", 3},
	{lines, 1},
}

// endlessDelays are of rules that look ahead without end.
var endlessDelays = []delayCase{
	{ab + "join a | b* a;", -1},
	{ab + "join a | b+ a;", -1},
	{ab + "join a | any* a;", -1},
	{ab + "join a | (b / any)* a;", -1},
	{ab + "join a | bad* other;", -1},
	{ab + "join a | (b b)+ a;", -1},
	{ab + "join a | (b a? b)* bad;", -1},
	{ab + "cut | b* a; join | ;", -1},
	{ab + "cut a | b* a; join a | b* b; join a | ;", -1},
	{ab + "join b | b; join a | b* a;", -1},
	// They match at once, or not at all, though they could look ahead for ever.
	{ab + "join a | b+;", 1},
	{ab + "join a | any*;", 1},
	{ab + "join a | b* a?;", 1},
	{ab + "join a | (a / b+)+;", 1},
	{ab + "join a | a any*;", 1},
	{ab + "join a* b+ | b;", 1},
	{ab + "cut any | ; join | b* a;", 0},
}

// littleDelays are of rules without any rule, of sides that are left out, and of sides that match no character at all.
var littleDelays = []delayCase{
	{"", 0},
	{ab, 0},
	{all, 0},
	{"cut | ;", 0},
	{"join | ;", 1},
	{ab + "join a | ;", 1},
	{ab + "join | a;", 1},
	{ab + "join | a b;", 2},
	{ab + "cut a | ;", 0},
	{ab + "cut | b b b;", 0},
	{ab + "join a? | ;", 1},
	{ab + "join | b?;", 1},
	{ab + "join a* | b*;", 1},
	{ab + "join ((a*)+)? | ((b?)+)*;", 1},
	{ab + "cut a? | b*; join | a a;", 0},
	{ab + "join | b? a;", 2},
}

// sameDelays are of rules that can still match, but say the same as what would count without them.
var sameDelays = []delayCase{
	{ab + "cut a | b b b;", 0},
	{ab + "cut a | b* a; cut | ;", 0},
	{ab + "cut a | b* a; cut b | a b; cut bad | any* bad;", 0},
	{ab + "join a | b* a; join a | ;", 1},
	{ab + "join a | b* a; join a | b; join a | ;", 1},
	{ab + "join a | b b b; join a | b b b b;", 3},
	{ab + "join a | b b b b; join a | b b;", 2},
	{ab + "join a | b b; cut a | b b b;", 2},
	{ab + "cut a | a b a; join | b; cut | ;", 1},
	{ab + "join a | b* a; cut a | b; join a | b b;", -1},
	{ab + "cut a | b; join a | b* a;", 1},
	{ab + "cut a | b; join a | b* a / b b;", 1},
	{ab + "cut | any any; join | b* a;", 2},
	{ab + "cut | any; join | ;", 0},
	{ab + "join | any; cut | b* a;", 1},
}

// endDelays are of rules by which only the end of the text leaves a place open: there it is cut, and no rule is asked.
var endDelays = []delayCase{
	{"join any | any;", 1},
	{"join | any any;", 2},
	{"join any any | any any any;", 3},
	{"join | any any any any;", 4},
	{"cut | any any; join | any;", 2},
	{"join | any; cut | any any;", 1},
	{"cut | any any; join | any any any;", 0},
	{"cut | any any any; join | any any;", 3},
	{"join | any any+;", 2},
	{"cut any | any; join | ;", 0},
	{"join | any+;", 1},
}

// leftDelays are of rules whose left sides never match, or never alone. A place has a character ahead of it.
var leftDelays = []delayCase{
	{"cut any | ; join | any any any;", 0},
	{ab + "cut a / b / other / bad | ; join | any* a;", 0},
	{ab + "cut a / b / other | ; join | any* a;", -1},
	{ab + "join a b a | b b b b; cut | any any;", 4},
	{ab + "join a b a | b b b b; join | any any;", 2},
	{ab + "join a b* a | b a;", 2},
	{ab + "join bad bad bad bad | a a a a;", 4},
	{ab + "cut a | ; join a a a a | b b;", 0},
	{ab + "cut any a | ; join a a a a | b b;", 0},
	{ab + "cut b a | ; join a a a a | b b;", 2},
	{ab + "cut (any any)+ | ; join b b? b? | any any any;", 3},
	{ab + "join any | any a; cut b | a a; join a | b b b;", 3},
}

// otherDelays are of classes that have every code point, and of such that leave one.
var otherDelays = []delayCase{
	{all + "join other | any any any; join a | a;", 1},
	{all + "join a | other any* b;", 0},
	{all + "join a | a (a / b / bad);", 2},
	{all + "join | a a; join | a b; join | a bad;", 2},
	{all + "join | a; join | b; join | bad; cut | any* a;", 1},
	{ab + "join | a; join | b; join | bad; cut | any* a;", 1},
	{all + "cut | bad; cut | a; cut | b; join | any any;", 0},
	{ab + "cut | bad; cut | a; cut | b; join | any any;", 2},
	{"class a = 0-D7FF, E000-10FFFF; join other | any* bad;", 0},
	{"class a = E000-10FFFF; class b = 0-D7FF; join other | any* bad;", 0},
	{"class a = E000-10FFFF, 0-7F; class b = 80; class c = 81-D7FF; join other | any* bad;", 0},
	{"class a = 1-D7FF, E000-10FFFF; join other | any* bad;", -1},
	{"class a = 0-D7FE, E000-10FFFF; join other | any* bad;", -1},
	{"class a = 0-D7FF, E001-10FFFF; join other | any* bad;", -1},
	{"class a = 0-D7FF, E000-10FFFE; join other | any* bad;", -1},
	{"class a = 0-60, 62-D7FF, E000-10FFFF; join other | any* bad;", -1},
	{"join other | any* bad;", -1},
	// Bad characters may come though every code point is in a class.
	{all + "join bad | bad bad;", 2},
	{all + "join a | any* bad;", -1},
}

// P5.
func TestDelay(t *testing.T) {
	for name, list := range map[string][]delayCase{
		"ordinary": ordinaryDelays, "endless": endlessDelays, "little": littleDelays, "same": sameDelays,
		"end": endDelays, "left": leftDelays, "other": otherDelays,
	} {
		for _, c := range list {
			if got := mustCompile(t, c.rules).Delay(); got != c.want {
				t.Errorf("%s: Delay of %q = %d, want %d", name, c.rules, got, c.want)
			}
		}
	}
}

// P5, at as many classes, rules, atoms and brackets as there may be.
func TestDelayOfMany(t *testing.T) {
	const six = "class a = 61; class b = 62; class c = 63; class d = 64; class e = 65; class f = 66; "
	for _, c := range []delayCase{
		{six + "join a b c d | e f a b; cut b | e e c d; join c any* d | a; join (d / e) f* | b f c;", 4},
		{six + "cut any* a any any | any* b any any; cut (any / b)+ | (c c c c)*; join f | f f f f; join e | e e e e;", 0},
		{six + "join a any any any | any* a any b; join b any any any | any* b any c; join c any any any | any* c any d; join d any any any | any* d any e;", -1},
		{six + "join ((((a)))) | ((((b)))) ((((c)))) d e; join | f f f f; join | e e e e; join | d d d d;", 4},
		{six + "cut any any any any | any any any any; join any any any | any any any; cut any any | any any; join any | any;", 4},
		// They can look further than they have atoms, and yet not for ever.
		{six + "join a | b bad+ any bad;", 5},
		{six + "join | b+ any any b;", 6},
		{six + "join ((((a*)+)?)*)+ | ((((b*)+)?)*)+; join | a; join | b; cut | c* d;", 1},
	} {
		if got := mustCompile(t, c.rules).Delay(); got != c.want {
			t.Errorf("Delay of %q = %d, want %d", c.rules, got, c.want)
		}
	}
}

// openPlaces tells by Cut, of places with that many characters ahead, behind how many known characters one is not settled. It goes through all texts of these characters, up to a length.
type openPlaces struct {
	rules  *cleave.Rules
	these  []string
	length int
	open   []bool
}

func (o *openPlaces) look(place int, known []string) (mayCut, mayJoin bool) {
	if o.cutAt(place, known) {
		mayCut = true
	} else {
		mayJoin = true
	}
	if len(known) < o.length {
		for _, c := range o.these {
			cut, join := o.look(place, append(known[:len(known):len(known)], c))
			mayCut, mayJoin = mayCut || cut, mayJoin || join
		}
	}
	if mayCut && mayJoin {
		o.open[len(known)-place] = true
	}
	return mayCut, mayJoin
}

func (o *openPlaces) cutAt(place int, text []string) bool {
	want := strings.Join(text[:place], "")
	got := ""
	for _, segment := range o.rules.Cut(strings.Join(text, "")) {
		got += segment
		if len(got) >= len(want) {
			break
		}
	}
	return got == want
}

func (o *openPlaces) lookAtAll(place int, ahead []string) {
	if len(ahead) == place {
		o.look(place, ahead)
		return
	}
	for _, c := range o.these {
		o.lookAtAll(place, append(ahead[:len(ahead):len(ahead)], c))
	}
}

// P5: what Delay tells is what Cut does.
func TestDelayIsWhatCutShows(t *testing.T) {
	const behind = 5
	for _, list := range [][]delayCase{ordinaryDelays, endlessDelays, littleDelays, sameDelays, endDelays} {
		for _, c := range list {
			o := openPlaces{rules: mustCompile(t, c.rules), these: []string{"a", "b", "!", "\xff"}, open: make([]bool, behind+1)}
			if strings.HasPrefix(c.rules, "class R") {
				o.these = []string{"\r", "\n", "!", "\xff"}
			}
			if strings.HasPrefix(c.rules, all) {
				o.these = []string{"a", "b", "\xff"}
			}
			for place := 1; place <= 2; place++ {
				o.length = place + behind
				o.lookAtAll(place, nil)
			}
			if c.want > behind-1 {
				t.Fatalf("the texts are too short for %d characters", c.want)
			}
			// The last of the texts end too early to show all that may come.
			for known, open := range o.open[:behind] {
				if open != (c.want < 0 || known < c.want) {
					t.Errorf("Delay of %q is %d, but with %d characters known a place is open: %v", c.rules, c.want, known, open)
				}
			}
		}
	}
}

// P5: behind Delay's characters nothing that comes changes a place.
func TestDelayIsEnough(t *testing.T) {
	rnd := rand.New(rand.NewSource(6))
	these := []string{"a", "b", "c", "é", "!", "\xff"}
	row := func(n int) []string {
		var row []string
		for range n {
			row = append(row, these[rnd.Intn(len(these))])
		}
		return row
	}
	for range 3000 {
		s := twoRules(rnd)
		if len(s.text) > api.MaxText {
			continue
		}
		o := openPlaces{rules: mustCompile(t, s.text)}
		k := o.rules.Delay()
		if k < 0 {
			continue
		}
		place := 1 + rnd.Intn(5)
		known := row(place + k)
		// With nothing known behind it, that the text ends there is among what may come.
		want := o.cutAt(place, known)
		for range 20 {
			text := append(known[:len(known):len(known)], row(rnd.Intn(6))...)
			if o.cutAt(place, text) != want {
				t.Fatalf("Delay of %q is %d, but at %d %q is cut: %v, and %q is not so", s.text, k, place, known, want, text)
			}
		}
	}
}

// P1 and P2: Delay answers the same, however often it is asked and whatever is asked beside it.
func TestDelayAnswersTheSame(t *testing.T) {
	for _, c := range append(ordinaryDelays, endlessDelays...) {
		r := mustCompile(t, c.rules)
		var group sync.WaitGroup
		for range 4 {
			group.Go(func() {
				for range 20 {
					if got := r.Delay(); got != c.want {
						t.Errorf("Delay of %q = %d, want %d", c.rules, got, c.want)
					}
					r.Cut("abab!\xff")
				}
			})
		}
		group.Wait()
	}
}

// P2: rules are not changed by Delay, nor by its being asked often.
func TestDelayLeavesRulesAlone(t *testing.T) {
	text := strings.Repeat("ab!\xffbba", 20)
	for _, list := range [][]delayCase{ordinaryDelays, endlessDelays, littleDelays, sameDelays, endDelays, leftDelays, otherDelays} {
		for _, c := range list {
			r, asked := mustCompile(t, c.rules), mustCompile(t, c.rules)
			asked.Delay()
			checkSameRules(t, r, asked, text)
			for range 50 {
				asked.Delay()
			}
			checkSameRules(t, r, asked, text)
		}
	}
}
