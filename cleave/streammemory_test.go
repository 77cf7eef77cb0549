package cleave_test

import (
	"bytes"
	"math/rand"
	"reflect"
	"slices"
	"strings"
	"sync"
	"testing"
	"unsafe"

	"cleave/api"
	"cleave/cleave"
)

// streamRules leave much untold, some and nothing.
func streamRules() []string {
	return []string{"", "join | ;", lines, ab + "join a | b* a;", ab + "join bad | any* bad; join a | a;"}
}

const streamText = "aab\r\nabbba\xffb\xe2\x82\xac!\xe2\x82a\n\nabb\xf0\x9f\x98\x80aa\xf0\x9f"

// P2: what was handed in may be written over afterwards, with its spare room.
func TestWriteKeepsNothing(t *testing.T) {
	for _, rules := range streamRules() {
		r := mustCompile(t, rules)
		for size := 1; size <= len(streamText); size++ {
			s := mustOpen(t, r, api.MaxFull)
			b := make([]byte, size, size+10)
			var all []string
			for text := streamText; text != ""; {
				n := copy(b, text)
				text = text[n:]
				told, _ := s.Write(b[:n])
				all = append(all, told...)
				for i := range b[:cap(b)] {
					b[:cap(b)][i] = 'x'
				}
			}
			told, _ := s.Close()
			if all = append(all, told...); !slices.Equal(all, r.Cut(streamText)) {
				t.Fatalf("by %q in pieces of %d that are written over: %q", rules, size, all)
			}
		}
	}
}

// P2: neither the stream nor its rules nor the segments have a part of the memory that was handed in.
func TestWriteSharesNothingWithItsBytes(t *testing.T) {
	for _, rules := range []string{"", "join | ;", lines} {
		r := mustCompile(t, rules)
		s := mustOpen(t, r, api.MaxFull)
		for range 3 {
			b := []byte(streamText)
			told, _ := s.Write(b)
			for name, v := range map[string]any{"segments": told, "stream": s, "rules": r} {
				if pointsInto(reflect.ValueOf(v), uintptr(unsafe.Pointer(&b[0])), len(b)) {
					t.Errorf("by %q the %s have a part of what was written", rules, name)
				}
			}
		}
	}
}

// P2: what came out is the caller's, who may write over it and into its spare room, and keep it while the stream goes on.
func TestToldSegmentsAreTheCallers(t *testing.T) {
	for _, rules := range streamRules() {
		r := mustCompile(t, rules)
		s := mustOpen(t, r, api.MaxFull)
		var all, kept []string
		take := func(told []string, no api.Errno) {
			if no != api.OK {
				t.Fatalf("by %q: %d", rules, no)
			}
			for _, segment := range told {
				all = append(all, strings.Clone(segment))
				kept = append(kept, segment)
			}
			room := told[:cap(told)]
			for i := range room {
				room[i] = "spoiled"
			}
		}
		for range 50 {
			for i := range len(streamText) {
				take(s.Write([]byte(streamText[i : i+1])))
			}
			take(s.Write([]byte(streamText)))
		}
		take(s.Close())
		if !slices.Equal(all, r.Cut(strings.Repeat(streamText, 100))) {
			t.Errorf("by %q the segments change when those told ahead are written over", rules)
		}
		if !slices.Equal(kept, all) {
			t.Errorf("by %q segments change when the stream goes on", rules)
		}
	}
}

// P2: no two segments have memory in common.
func TestToldSegmentsShareNothing(t *testing.T) {
	s := mustOpen(t, mustCompile(t, lines), api.MaxFull)
	told, _ := s.Write([]byte("one\ntwo\nthree\nfour"))
	more, _ := s.Write([]byte("\nfive"))
	rest, _ := s.Close()
	told = append(append(told, more...), rest...)
	slices.SortFunc(told, func(x, y string) int {
		return int(int64(uintptr(unsafe.Pointer(unsafe.StringData(x)))) - int64(uintptr(unsafe.Pointer(unsafe.StringData(y)))))
	})
	for i := 1; i < len(told); i++ {
		end := uintptr(unsafe.Pointer(unsafe.StringData(told[i-1]))) + uintptr(len(told[i-1]))
		if begin := uintptr(unsafe.Pointer(unsafe.StringData(told[i]))); begin < end {
			t.Errorf("%q and %q have memory in common", told[i-1], told[i])
		}
	}
}

// P2: streams of the same rules, to which pieces are written in turn, tell what each would tell alone, with a full one and a closed one beside them.
func TestStreamsShareNothing(t *testing.T) {
	rnd := rand.New(rand.NewSource(8))
	for _, rules := range streamRules() {
		r := mustCompile(t, rules)
		streams := make([]*cleave.Stream, 6)
		texts := make([]string, len(streams))
		all := make([][]string, len(streams))
		for i := range streams {
			streams[i] = mustOpen(t, r, api.MaxFull)
		}
		for range 300 {
			full := mustOpen(t, r, 1)
			full.Write([]byte("a\xffa\xe2\x82"))
			full.Close()
			i := rnd.Intn(len(streams))
			piece := randomText(rnd, rnd.Intn(4))
			texts[i] += piece
			told, _ := streams[i].Write([]byte(piece))
			all[i] = append(all[i], told...)
		}
		for i, s := range streams {
			told, _ := s.Close()
			if got := append(all[i], told...); !slices.Equal(got, r.Cut(texts[i])) {
				t.Errorf("by %q a stream tells %q beside others, want %q", rules, got, r.Cut(texts[i]))
			}
		}
		checkSameRules(t, r, mustCompile(t, rules), streamText)
	}
}

// P2: streams of the same rules may run at the same time.
func TestStreamsRunAtTheSameTime(t *testing.T) {
	for _, rules := range streamRules() {
		r := mustCompile(t, rules)
		var group sync.WaitGroup
		for i := range 8 {
			text := strings.Repeat(streamText, 3+i)
			want := mustCompile(t, rules).Cut(text)
			group.Go(func() {
				for range 20 {
					s, _ := r.Open(api.MaxFull)
					var all []string
					for piece := range slices.Chunk([]byte(text), 1+i) {
						told, _ := s.Write(piece)
						all = append(all, told...)
					}
					r.Delay()
					told, _ := s.Close()
					if all = append(all, told...); !slices.Equal(all, want) {
						t.Errorf("by %q a stream tells %q beside others, want %q", rules, all, want)
						return
					}
				}
			})
		}
		group.Wait()
	}
}

// P2: rules are not changed by their streams, and answer the same while these are open.
func TestStreamsLeaveRulesAlone(t *testing.T) {
	for _, rules := range streamRules() {
		r, asked := mustCompile(t, rules), mustCompile(t, rules)
		s := mustOpen(t, asked, 10)
		for _, piece := range append(someTexts(), streamText) {
			s.Write([]byte(piece))
			checkSameRules(t, r, asked, streamText)
			other := mustOpen(t, asked, 100)
			other.Write(bytes.Repeat([]byte(piece), 2))
			other.Close()
			checkSameRules(t, r, asked, streamText)
		}
		s.Close()
		checkSameRules(t, r, asked, streamText)
		if r.Delay() != asked.Delay() {
			t.Errorf("by %q Delay is %d, with streams %d", rules, r.Delay(), asked.Delay())
		}
	}
}

// P1: a stream that can tell nothing for long takes each byte as fast as the first.
func TestLongStreamsEnd(t *testing.T) {
	const rules = ab + "join a (b b)* | (b b)* a; join a any* | any* bad; cut any* | (any any any)* a; join (b / b b)* | b* bad;"
	r := mustCompile(t, rules)
	for _, end := range []string{"b", "a", "\xff"} {
		text := strings.Repeat("bab", api.MaxFull/3) + end
		s := mustOpen(t, r, api.MaxFull)
		var all []string
		for i := range len(text) {
			told, no := s.Write([]byte(text[i : i+1]))
			if no != api.OK {
				t.Fatalf("Write of byte %d = %d", i, no)
			}
			all = append(all, told...)
		}
		told, _ := s.Close()
		if all = append(all, told...); !slices.Equal(all, r.Cut(text)) {
			t.Errorf("%d segments, want %d", len(all), len(r.Cut(text)))
		}
	}
}
