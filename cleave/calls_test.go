package cleave_test

import (
	"bytes"
	"math"
	"reflect"
	"slices"
	"strings"
	"sync"
	"testing"
	"unsafe"

	"cleave/api"
	"cleave/cleave"
)

const lines = "class R = D; class N = A; join R | N; cut R / N | ; join | ;"

func someRules() []string {
	return []string{"", "join | ;", lines, "class A = 0-D7FF, E000-10FFFF; join ((A*)*)* | ((A+)?)+ bad; cut other | other;", "cut", "cut x|;", strings.Repeat("(", 5000)}
}

func someTexts() []string {
	return []string{"", "a", "ab\r\nc\n", "\x00", "\xff\xfe", "\xf0\x9f\x98", "\xed\xa0\x80", "é\U0010FFFF", strings.Repeat("a\xc3", 2000)}
}

// P1: every call ends, and none panics, also of what Compile and Open gave beside an error.
func TestNoCallPanics(t *testing.T) {
	for _, text := range append(someRules(), someTexts()...) {
		r, _, _ := cleave.Compile(text)
		r.Delay()
		for _, full := range []int{math.MinInt, -1, 0, 1, 2, api.MaxFull, api.MaxFull + 1, math.MaxInt} {
			s, _ := r.Open(full)
			for _, piece := range someTexts() {
				r.Cut(piece)
				s.Write([]byte(piece))
			}
			s.Write(nil)
			s.Close()
			s.Write([]byte("a"))
			s.Close()
		}
	}
}

// P1: with an error there are no rules, and its place is within the text.
func TestCompileAnswersNilWithAnError(t *testing.T) {
	for _, text := range someTexts()[1:] {
		r, no, at := cleave.Compile(text)
		if r != nil || no == api.OK || at < 0 || at > len(text) || no == api.ErrLong && at != 0 {
			t.Errorf("Compile(%.60q) = rules %v, %d, %d", text, r != nil, no, at)
		}
	}
}

// P2: the bytes behind the text may change when Compile has answered: rules that keep a part of it would change too.
func TestCompileKeepsNothing(t *testing.T) {
	b := []byte(lines)
	r, _, _ := cleave.Compile(unsafe.String(&b[0], len(b)))
	if string(b) != lines {
		t.Fatalf("Compile wrote into its text: %q", b)
	}
	for i := range b {
		b[i] = 'x'
	}
	fresh, _, _ := cleave.Compile(lines)
	if r == nil || r == fresh || !reflect.DeepEqual(r, fresh) {
		t.Errorf("the rules changed with the bytes of their text")
	}
	if pointsInto(reflect.ValueOf(r), uintptr(unsafe.Pointer(&b[0])), len(b)) {
		t.Errorf("the rules keep a part of their text")
	}
}

// pointsInto looks for a string or slice of v that stands within n bytes at from.
func pointsInto(v reflect.Value, from uintptr, n int) bool {
	within := func(at uintptr) bool { return from <= at && at < from+uintptr(n) }
	switch v.Kind() {
	case reflect.String:
		return v.Len() > 0 && within(uintptr(unsafe.Pointer(unsafe.StringData(v.String()))))
	case reflect.Pointer:
		return !v.IsNil() && pointsInto(v.Elem(), from, n)
	case reflect.Struct:
		for i := range v.NumField() {
			if pointsInto(v.Field(i), from, n) {
				return true
			}
		}
	case reflect.Slice:
		if within(v.Pointer()) {
			return true
		}
		for i := range v.Len() {
			if pointsInto(v.Index(i), from, n) {
				return true
			}
		}
	}
	return false
}

// checkSameRules wants rules that are the same, and that answer the same.
func checkSameRules(t *testing.T, one, two *cleave.Rules, text string) {
	t.Helper()
	if one == two || !reflect.DeepEqual(one, two) || !slices.Equal(one.Cut(text), two.Cut(text)) {
		t.Errorf("the rules changed")
	}
}

// P2: rules do not change, whatever is asked of them and of others.
func TestRulesDoNotChange(t *testing.T) {
	r, _, _ := cleave.Compile(lines)
	for _, text := range someRules() {
		cleave.Compile(text)
	}
	for _, text := range someTexts() {
		r.Cut(text)
		r.Delay()
		s, _ := r.Open(10)
		s.Write([]byte(text))
		s.Close()
	}
	fresh, _, _ := cleave.Compile(lines)
	if !reflect.DeepEqual(r, fresh) {
		t.Errorf("the rules changed")
	}
}

// P1: a long text is cut in one walk, however far the rules look at each of its places.
func TestCutOfALongTextEnds(t *testing.T) {
	const n = 1000000
	text := strings.Repeat("b", n)
	r := mustCompile(t, "class a = 61; class b = 62; join b (b b)* | (b b)* a; join a any* | any* bad; cut any* | (any any any)* a; join (b / b b)* | b* bad;")
	if got := r.Cut(text); len(got) != n || got[0] != "b" || got[n-1] != "b" {
		t.Errorf("%d segments, want %d", len(got), n)
	}
	if got := r.Cut(text + "\xff"); len(got) != 1 || got[0] != text+"\xff" {
		t.Errorf("%d segments, want 1", len(got))
	}
}

// P2: the bytes behind the text may change when Cut has answered: the segments do not, and have no part of its memory.
func TestCutKeepsNothing(t *testing.T) {
	const text = "one\ntwo\r\n\xff\xe2\x82"
	for _, rules := range []string{"", "join | ;", lines} {
		r := mustCompile(t, rules)
		b := []byte(text)
		got := r.Cut(unsafe.String(&b[0], len(b)))
		if string(b) != text {
			t.Fatalf("Cut wrote into its text: %q", b)
		}
		if pointsInto(reflect.ValueOf(got), uintptr(unsafe.Pointer(&b[0])), len(b)) {
			t.Errorf("by %q segments are a part of the text that was handed in", rules)
		}
		if pointsInto(reflect.ValueOf(r), uintptr(unsafe.Pointer(&b[0])), len(b)) {
			t.Errorf("by %q the rules keep a part of the text", rules)
		}
		for i := range b {
			b[i] = 'x'
		}
		if want := r.Cut(text); !slices.Equal(got, want) {
			t.Errorf("by %q the segments changed with the bytes of their text: %q, want %q", rules, got, want)
		}
	}
}

// P2: the segments are the caller's, who may write over them and into their spare room, and keep them while Cut is asked again.
func TestSegmentsAreTheCallers(t *testing.T) {
	r := mustCompile(t, lines)
	for _, text := range []string{"a\nb\nc", "one\ntwo\nthree\nfour\nfive\n"} {
		want := slices.Clone(r.Cut(text))
		kept := r.Cut(text)
		spoiled := r.Cut(text)
		room := spoiled[:cap(spoiled)]
		for i := range room {
			room[i] = "spoiled"
		}
		if got := r.Cut(text); !slices.Equal(got, want) {
			t.Errorf("Cut answers %q when its segments were written over, want %q", got, want)
		}
		r.Cut("other\ntext")
		if !slices.Equal(kept, want) {
			t.Errorf("segments that were kept are %q, want %q", kept, want)
		}
	}
}

// P2: Cut answers the same beside others that ask the same rules.
func TestCutsShareNothing(t *testing.T) {
	r := mustCompile(t, lines)
	var all sync.WaitGroup
	for i := range 8 {
		text := strings.Repeat("ab\r\n\xff\n", 20+i)
		want := slices.Clone(mustCompile(t, lines).Cut(text))
		all.Go(func() {
			for range 200 {
				if got := r.Cut(text); !slices.Equal(got, want) {
					t.Errorf("Cut answers %q beside others, want %q", got, want)
					return
				}
			}
		})
	}
	all.Wait()
}

// P2: calls that run at the same time answer as those that run alone.
func TestCompilesShareNothing(t *testing.T) {
	want, _, _ := cleave.Compile(lines)
	var all sync.WaitGroup
	for range 8 {
		all.Go(func() {
			for range 200 {
				got, no, at := cleave.Compile(lines)
				if no != api.OK || at != 0 || got == want || !reflect.DeepEqual(got, want) {
					t.Errorf("Compile answers otherwise beside others")
					return
				}
			}
		})
	}
	all.Wait()
}

// P2: neither the bytes that are written nor the room behind them change.
func TestWriteLeavesItsBytesAlone(t *testing.T) {
	for _, rules := range []string{"", "join | ;", lines} {
		r := mustCompile(t, rules)
		one, _ := r.Open(api.MaxFull)
		for _, text := range someTexts() {
			alone, _ := r.Open(api.MaxFull)
			for _, s := range []*cleave.Stream{one, alone} {
				b := append([]byte(text), "spare room"...)
				kept := bytes.Clone(b)
				s.Write(b[:len(text)])
				alone.Close()
				if !bytes.Equal(b, kept) {
					t.Errorf("Write changed %.40q into %.40q", kept, b)
				}
			}
		}
	}
}
