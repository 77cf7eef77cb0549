package cleave_test

import (
	"math/rand"
	"regexp/syntax"
	"slices"
	"strings"
	"testing"

	"cleave/api"
)

// lang is a set of rows of letters, told in another way than the program's: by the rows that are left of it behind a letter. Two that have the same key are the same.
type lang struct {
	key    string
	empty  bool // the row without letters is in it
	behind func(letter rune) *lang
	ways   []*lang // if it is either of several
}

func nothing() *lang { return &lang{key: "0", behind: func(rune) *lang { return nothing() }} }

func noLetter() *lang {
	return &lang{key: "1", empty: true, behind: func(rune) *lang { return nothing() }}
}

func oneOf(letters string) *lang {
	return &lang{key: "[" + letters + "]", behind: func(letter rune) *lang {
		if strings.ContainsRune(letters, letter) {
			return noLetter()
		}
		return nothing()
	}}
}

func both(x, y *lang) *lang {
	switch {
	case x.key == "0" || y.key == "1":
		return x
	case y.key == "0" || x.key == "1":
		return y
	}
	return &lang{key: "(" + x.key + y.key + ")", empty: x.empty && y.empty, behind: func(letter rune) *lang {
		rest := both(x.behind(letter), y)
		if x.empty {
			rest = either(rest, y.behind(letter))
		}
		return rest
	}}
}

func either(these ...*lang) *lang {
	var ways []*lang
	for _, x := range these {
		if x.ways != nil {
			ways = append(ways, x.ways...)
		} else if x.key != "0" {
			ways = append(ways, x)
		}
	}
	slices.SortFunc(ways, func(x, y *lang) int { return strings.Compare(x.key, y.key) })
	ways = slices.CompactFunc(ways, func(x, y *lang) bool { return x.key == y.key })
	if len(ways) == 0 {
		return nothing()
	}
	if len(ways) == 1 {
		return ways[0]
	}
	var keys []string
	empty := false
	for _, x := range ways {
		keys = append(keys, x.key)
		empty = empty || x.empty
	}
	return &lang{key: "{" + strings.Join(keys, "/") + "}", empty: empty, ways: ways, behind: func(letter rune) *lang {
		var rests []*lang
		for _, x := range ways {
			rests = append(rests, x.behind(letter))
		}
		return either(rests...)
	}}
}

func often(x *lang) *lang {
	return &lang{key: "<" + x.key + ">", empty: true, behind: func(letter rune) *lang { return both(x.behind(letter), often(x)) }}
}

// langOf says a regular expression of the letters. That a side stands at a place is no matter here: beginning and end are no letters.
func langOf(x *syntax.Regexp) *lang {
	var subs []*lang
	for _, sub := range x.Sub {
		subs = append(subs, langOf(sub))
	}
	switch x.Op {
	case syntax.OpCharClass:
		letters := ""
		for _, letter := range "ABox" {
			for i := 0; i < len(x.Rune); i += 2 {
				if x.Rune[i] <= letter && letter <= x.Rune[i+1] {
					letters += string(letter)
				}
			}
		}
		return oneOf(letters)
	case syntax.OpLiteral:
		row := noLetter()
		for _, letter := range x.Rune {
			row = both(row, oneOf(string(letter)))
		}
		return row
	case syntax.OpConcat:
		row := noLetter()
		for _, sub := range subs {
			row = both(row, sub)
		}
		return row
	case syntax.OpAlternate:
		return either(subs...)
	case syntax.OpStar:
		return often(subs[0])
	case syntax.OpPlus:
		return both(subs[0], often(subs[0]))
	case syntax.OpQuest:
		return either(noLetter(), subs[0])
	case syntax.OpEmptyMatch, syntax.OpBeginText, syntax.OpEndText:
		return noLetter()
	}
	panic("no such expression: " + x.String())
}

func langOfPattern(pattern string) *lang {
	x, err := syntax.Parse(pattern, syntax.Perl)
	if err != nil {
		panic(err)
	}
	return langOf(x)
}

// langs has one for each rule.
type langs []*lang

func (l langs) key() string {
	var keys []string
	for _, x := range l {
		keys = append(keys, x.key)
	}
	return strings.Join(keys, " ")
}

func (l langs) behind(letter rune) langs {
	var next langs
	for _, x := range l {
		next = append(next, x.behind(letter))
	}
	return next
}

// secondView is what is known of a place.
type secondView struct {
	key             string
	mayCut, mayJoin bool
	next            []*secondView
}

// secondDelay looks at all that may come, view by view, and then at one more character at a time until no place is open.
type secondDelay struct {
	secondRules
	letters string
	views   map[string]*secondView
}

func (s *secondDelay) cuts(rights langs) bool {
	for i, x := range rights {
		if x.empty {
			return s.rules[i].cut
		}
	}
	return true
}

func (s *secondDelay) view(key string, cut bool, rights langs) *secondView {
	if v := s.views[key]; v != nil {
		return v
	}
	v := &secondView{key: key, mayCut: cut, mayJoin: !cut}
	s.views[key] = v
	for _, letter := range s.letters {
		next := rights.behind(letter)
		for i, x := range next {
			// What has matched matches, whatever comes.
			if rights[i].empty || x.empty {
				next[i] = often(oneOf("ABox"))
			}
		}
		v.next = append(v.next, s.view(next.key(), s.cuts(next), next))
	}
	return v
}

// starts are the views of places, by all that may stand ahead of them.
func (s *secondDelay) starts() []*secondView {
	var lefts langs
	for _, r := range s.rules {
		lefts = append(lefts, both(often(oneOf("ABox")), langOfPattern(r.left.String())))
	}
	var starts []*secondView
	work := []langs{lefts}
	seen := map[string]int{}
	for ; len(work) > 0; work = work[1:] {
		for _, letter := range s.letters {
			next := work[0].behind(letter)
			if seen[next.key()]++; seen[next.key()] > 1 {
				continue
			}
			work = append(work, next)
			var rights langs
			for i, r := range s.rules {
				if rights = append(rights, nothing()); next[i].empty {
					rights[i] = langOfPattern(r.right.String())
				}
			}
			starts = append(starts, s.view("end, "+rights.key(), true, rights))
		}
	}
	return starts
}

// settle lets each view know what those know that it leads to, until none learns more.
func (s *secondDelay) settle() {
	for changed := true; changed; {
		changed = false
		for _, v := range s.views {
			for _, next := range v.next {
				if next.mayCut && !v.mayCut || next.mayJoin && !v.mayJoin {
					v.mayCut, v.mayJoin, changed = v.mayCut || next.mayCut, v.mayJoin || next.mayJoin, true
				}
			}
		}
	}
}

func (s *secondDelay) delay() int {
	open := map[string]*secondView{}
	for _, v := range s.starts() {
		open[v.key] = v
	}
	s.settle()
	for k := 0; k <= len(s.views)+1; k++ {
		next := map[string]*secondView{}
		stillOpen := false
		for _, v := range open {
			if v.mayCut && v.mayJoin {
				stillOpen = true
				for _, n := range v.next {
					next[n.key] = n
				}
			}
		}
		if !stillOpen {
			return k
		}
		open = next
	}
	return -1
}

// fullClasses leave no character that is other.
const fullClasses = "class A = 61, 63-D7FF; class B = E000-10FFFF, 62, 0-60; "

// P5, at random rules: with other, and without.
func TestDelayIsAsTheOtherWay(t *testing.T) {
	rnd := rand.New(rand.NewSource(5))
	met := map[int]int{}
	for i := range 3000 {
		s := twoRules(rnd)
		letters := "ABox"
		if i%4 == 0 {
			letters = "ABx"
			s.text = strings.Replace(s.text, secondClasses, fullClasses, 1)
		}
		if len(s.text) > api.MaxText {
			continue
		}
		second := secondDelay{s, letters, map[string]*secondView{}}
		got, want := mustCompile(t, s.text).Delay(), second.delay()
		if got != want {
			t.Fatalf("Delay of %q = %d, want %d", s.text, got, want)
		}
		met[want]++
	}
	for _, want := range []int{-1, 0, 1, 2, 3, 4} {
		if met[want] == 0 {
			t.Errorf("no rules met whose Delay is %d: %v", want, met)
		}
	}
}
