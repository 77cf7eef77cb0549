package ahead

const endless = -1

// Delay is the most characters that must be known behind a place until it is settled, -1 if there is no most.
func (o *Outlook) Delay() int {
	w := waits{o, make([]int, len(o.views))}
	most := 0
	for i := range o.views {
		n := w.from(i)
		if n == endless {
			return endless
		}
		most = max(most, n)
	}
	return most
}

// waits has for each view how many characters one may have to wait from there, 0 where that is not known yet.
type waits struct {
	*Outlook
	told []int
}

// from waits for no character at a settled view, and else for one more than where one leads to. Who comes back to a view that is being asked can go round without end: so this is what is told there meanwhile.
func (w waits) from(at int) int {
	if w.views[at].settled || w.told[at] != 0 {
		return w.told[at]
	}
	w.told[at] = endless
	most := 0
	for _, k := range w.possible {
		n := w.from(w.views[at].next[k])
		if n == endless {
			return endless
		}
		most = max(most, n+1)
	}
	w.told[at] = most
	return most
}
