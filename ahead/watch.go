package ahead

import "cleave/kinds"

// Watch follows the places of one text while its characters come, and tells each segment when it can be told.
type Watch struct {
	outlook     *Outlook
	head        int           // what stands ahead of the last place
	open        map[int]group // the places that are not settled, by their views
	spare       map[int]group // empty: the next character makes it the open one
	first, last *place        // those that are not told yet, in the order of the text
	begun       int           // the bytes of the next segment that are ahead of all of them
}

// place stands behind a character that is known.
type place struct {
	size         int // the bytes of this character
	settled, cut bool
	behind       *place // the next one of the text
	beside       *place // one more of its group
}

// group is places that have the same view: so they stay together, and are settled at once. One more character costs a step for each view that is open, however many places are.
type group struct{ first, last *place }

// Watch begins a text.
func (o *Outlook) Watch() *Watch {
	return &Watch{outlook: o, open: map[int]group{}, spare: map[int]group{}}
}

// Take comes to know one more character.
func (w *Watch) Take(k kinds.Kind, size int) {
	was := w.open
	w.open = w.spare
	for at, these := range was {
		w.stand(these, w.outlook.views[at].next[k])
	}
	clear(was)
	w.spare = was
	w.head = w.outlook.heads[w.head].next[k]
	p := w.add(size)
	w.stand(group{p, p}, w.outlook.heads[w.head].start)
}

func (w *Watch) add(size int) *place {
	p := &place{size: size}
	if w.first == nil {
		w.first = p
	} else {
		w.last.behind = p
	}
	w.last = p
	return p
}

// stand gives places their view, beside those that have it already. Which of them came first is no matter.
func (w *Watch) stand(these group, at int) {
	v := &w.outlook.views[at]
	if v.settled {
		these.settle(v.cut)
		return
	}
	if others, there := w.open[at]; there {
		these.last.beside = others.first
		these.last = others.last
	}
	w.open[at] = these
}

// settle takes the places apart: one that is told must not be held by one that is not.
func (g group) settle(cut bool) {
	for p := g.first; p != nil; {
		next := p.beside
		p.settled, p.cut, p.beside = true, cut, nil
		p = next
	}
}

// End settles all places: nothing comes any more.
func (w *Watch) End() {
	for at, these := range w.open {
		these.settle(w.outlook.views[at].cut)
	}
	clear(w.open)
}

// Next tells a segment, by how many bytes it has: 0, if the next one hangs on a place that is not settled.
func (w *Watch) Next() int {
	for w.first != nil && w.first.settled {
		p := w.first
		w.first = p.behind
		w.begun += p.size
		if p.cut {
			size := w.begun
			w.begun = 0
			return size
		}
	}
	return 0
}
