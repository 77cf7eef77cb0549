package ahead

import (
	"math/rand"
	"slices"
	"testing"

	"cleave/kinds"
)

// viewAt goes to a place and on from there, for itself alone.
func viewAt(o Outlook, row []kinds.Kind, at int) view {
	head := 0
	for _, k := range row[:at] {
		head = o.heads[head].next[k]
	}
	now := o.heads[head].start
	for _, k := range row[at:] {
		now = o.views[now].next[k]
	}
	return o.views[now]
}

// sizeOf gives each character of a row a size, so that not all have the same.
func sizeOf(i int) int { return 1 + i%4 }

// secondSegments are the sizes of the segments ahead of the first place that is not settled.
func secondSegments(o Outlook, row []kinds.Kind, ended bool) []int {
	var sizes []int
	size := 0
	for i := range row {
		v := viewAt(o, row, i+1)
		if !v.settled && !ended {
			break
		}
		size += sizeOf(i)
		if v.cut {
			sizes = append(sizes, size)
			size = 0
		}
	}
	return sizes
}

func allNext(w *Watch) []int {
	var sizes []int
	for size := w.Next(); size > 0; size = w.Next() {
		sizes = append(sizes, size)
	}
	return sizes
}

func randomKinds(rnd *rand.Rand, o Outlook, n int) []kinds.Kind {
	var row []kinds.Kind
	for range n {
		row = append(row, o.possible[rnd.Intn(len(o.possible))])
	}
	return row
}

func TestWatchTellsWhatIsSettled(t *testing.T) {
	rnd := rand.New(rand.NewSource(1))
	for _, text := range someRules {
		o := mustMake(t, classes+text)
		for range 100 {
			row := randomKinds(rnd, o, rnd.Intn(12))
			w := o.Watch()
			var told []int
			for i, k := range row {
				w.Take(k, sizeOf(i))
				told = append(told, allNext(w)...)
				if want := secondSegments(o, row[:i+1], false); !slices.Equal(told, want) {
					t.Fatalf("by %q behind %v: %v, want %v", text, row[:i+1], told, want)
				}
			}
			w.End()
			told = append(told, allNext(w)...)
			if want := secondSegments(o, row, true); !slices.Equal(told, want) {
				t.Fatalf("by %q of %v: %v, want %v", text, row, told, want)
			}
		}
	}
}

// Who asks late is told the same.
func TestWatchTellsWhenItIsAsked(t *testing.T) {
	rnd := rand.New(rand.NewSource(2))
	for _, text := range someRules {
		o := mustMake(t, classes+text)
		row := randomKinds(rnd, o, 50)
		w := o.Watch()
		for i, k := range row {
			w.Take(k, sizeOf(i))
		}
		if got, want := allNext(w), secondSegments(o, row, false); !slices.Equal(got, want) {
			t.Errorf("by %q: %v, want %v", text, got, want)
		}
		if again := allNext(w); len(again) != 0 {
			t.Errorf("by %q segments are told twice: %v", text, again)
		}
	}
}

func TestAWatchWithoutCharactersTellsNothing(t *testing.T) {
	o := mustMake(t, "join | ;")
	w := o.Watch()
	if got := allNext(w); len(got) != 0 {
		t.Errorf("it tells %v", got)
	}
	w.End()
	if got := allNext(w); len(got) != 0 {
		t.Errorf("it tells %v at the end", got)
	}
}

// What one more character costs hangs on the views that are open, not on the places.
func TestPlacesWithOneViewAreOneGroup(t *testing.T) {
	o := mustMake(t, classes+"join a | any* bad; cut | (any any)* bad;")
	w := o.Watch()
	for range 10000 {
		w.Take(0, 1)
		if len(w.open) > len(o.views) || len(w.spare) != 0 {
			t.Fatalf("%d groups, %d of them spare, by %d views", len(w.open), len(w.spare), len(o.views))
		}
		if w.Next() != 0 {
			t.Fatal("a place was settled")
		}
	}
	if n := len(held(w)); n != 10000 {
		t.Errorf("%d places are held, want 10000", n)
	}
}

// held counts how often each place can be come to.
func held(w *Watch) map[*place]int {
	met := map[*place]int{}
	work := []*place{w.first, w.last}
	for _, g := range w.open {
		work = append(work, g.first, g.last)
	}
	for len(work) > 0 {
		p := work[len(work)-1]
		work = work[:len(work)-1]
		if p == nil {
			continue
		}
		if met[p]++; met[p] == 1 {
			work = append(work, p.behind, p.beside)
		}
	}
	return met
}

// Of what was told nothing is held, but for the last place, however long a text goes on.
func TestWatchHoldsOnlyWhatIsNotTold(t *testing.T) {
	rnd := rand.New(rand.NewSource(3))
	for _, text := range someRules {
		o := mustMake(t, classes+text)
		w := o.Watch()
		for i, k := range randomKinds(rnd, o, 2000) {
			w.Take(k, 1)
			allNext(w)
			untold := 0
			for p := w.first; p != nil; p = p.behind {
				untold++
			}
			if n := len(held(w)); n > max(untold, 1) {
				t.Fatalf("by %q %d places are held behind %d characters, but %d are untold", text, n, i+1, untold)
			}
		}
	}
}

// A place that was told was in one group with one that is still held back: that one does not hold it.
func TestGroupsThatAreSettledHoldNothing(t *testing.T) {
	o := mustMake(t, classes+"join a | any* b; join bad | any* other;")
	for range 50 {
		w := o.Watch()
		for _, k := range []kinds.Kind{0, kinds.Bad, 0, 0, 1} {
			w.Take(k, 1)
		}
		if allNext(w); len(held(w)) != 4 {
			t.Fatalf("%d places are held, want 4", len(held(w)))
		}
	}
}

func TestWatchesShareNothing(t *testing.T) {
	o := mustMake(t, classes+"join a | b b;")
	one, two := o.Watch(), o.Watch()
	one.Take(0, 1)
	two.Take(1, 2)
	one.Take(1, 1)
	if got := allNext(two); !slices.Equal(got, []int{2}) {
		t.Errorf("the second tells %v, want [2]", got)
	}
	two.End()
	if got := allNext(one); len(got) != 0 {
		t.Errorf("the first tells %v when the second has ended", got)
	}
	one.Take(1, 1)
	if got := allNext(one); !slices.Equal(got, []int{2, 1}) {
		t.Errorf("the first tells %v, want [2 1]", got)
	}
}
