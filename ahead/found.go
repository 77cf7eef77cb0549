package ahead

// found is things that were come to, each once, in the order in which they were first found.
type found[T comparable] struct {
	list []T
	at   map[T]int
}

// find is where a thing stands in the list, at its end if it is new.
func (f *found[T]) find(wanted T) int {
	if f.at == nil {
		f.at = map[T]int{}
	}
	at, there := f.at[wanted]
	if !there {
		at = len(f.list)
		f.at[wanted] = at
		f.list = append(f.list, wanted)
	}
	return at
}
