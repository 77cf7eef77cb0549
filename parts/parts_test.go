package parts

import (
	"testing"

	"cleave/kinds"
)

// matches walks all states in which the machine may stand at once.
func matches(m Machine, row []kinds.Kind) bool {
	stand := map[int]int{}
	m.stand(stand, m.First)
	for _, k := range row {
		next := map[int]int{}
		for i := range stand {
			if m.States[i].Takes&kinds.Only(k) == 0 {
				continue
			}
			for _, to := range m.States[i].To {
				m.stand(next, to)
			}
		}
		stand = next
	}
	_, last := stand[Last]
	return last
}

func (m Machine) stand(set map[int]int, at int) {
	if _, there := set[at]; there {
		return
	}
	set[at] = 1
	if m.States[at].Takes != 0 {
		return
	}
	for _, to := range m.States[at].To {
		m.stand(set, to)
	}
}

func row(digits string) []kinds.Kind {
	var out []kinds.Kind
	for i := range len(digits) {
		out = append(out, kinds.Kind(digits[i]-'0'))
	}
	return out
}

func check(t *testing.T, name string, p Part, yes, no []string) {
	t.Helper()
	m := Make(p)
	for _, s := range yes {
		if !matches(m, row(s)) {
			t.Errorf("%s does not match %q", name, s)
		}
	}
	for _, s := range no {
		if matches(m, row(s)) {
			t.Errorf("%s matches %q", name, s)
		}
	}
}

func TestPartsMatch(t *testing.T) {
	a, b, c := One(kinds.Only(0)), One(kinds.Only(1)), One(kinds.Only(2))
	check(t, "a", a, []string{"0"}, []string{"", "1", "00", "7"})
	check(t, "any", One(kinds.All), []string{"0", "5", "6", "7"}, []string{"", "00"})
	check(t, "nothing", Row(), []string{""}, []string{"0", "6"})
	check(t, "a b c", Row(a, b, c), []string{"012"}, []string{"", "01", "210", "0122"})
	check(t, "a / b / c", Either(a, b, c), []string{"0", "1", "2"}, []string{"", "3", "01"})
	check(t, "a / b c", Either(a, Row(b, c)), []string{"0", "12"}, []string{"", "02", "1", "2", "012"})
	check(t, "a*", Star(a), []string{"", "0", "0000"}, []string{"1", "01", "10"})
	check(t, "a+", Plus(a), []string{"0", "0000"}, []string{"", "1", "01"})
	check(t, "a?", Maybe(a), []string{"", "0"}, []string{"1", "00"})
	check(t, "(a b)* c", Row(Star(Row(a, b)), c), []string{"2", "012", "01012"}, []string{"", "02", "0012", "0101"})
	check(t, "(a / b)+ a?", Row(Plus(Either(a, b)), Maybe(a)), []string{"0", "1", "10", "0110"}, []string{"", "2", "02"})
}

func TestLoopsInLoopsMatch(t *testing.T) {
	a, b := One(kinds.Only(0)), One(kinds.Only(1))
	check(t, "(a*)*", Star(Star(a)), []string{"", "0", "000"}, []string{"1", "01"})
	check(t, "(a*)+", Plus(Star(a)), []string{"", "0", "000"}, []string{"1"})
	check(t, "(a?)+", Plus(Maybe(a)), []string{"", "0", "000"}, []string{"1"})
	check(t, "(a+ b?)*", Star(Row(Plus(a), Maybe(b))), []string{"", "0", "01", "0010"}, []string{"1", "011"})
}

func TestAPartMayStandTwice(t *testing.T) {
	a, b := One(kinds.Only(0)), One(kinds.Only(1))
	p := Star(a)
	check(t, "p b p", Row(p, b, p), []string{"1", "010", "0010"}, []string{"", "00", "11", "0101"})
	if one, two := Make(p), Make(p); &one.States[0] == &two.States[0] || len(one.States) != len(two.States) {
		t.Errorf("two machines of one part share their states")
	}
}

func TestStatesGrowWithThePartsOnly(t *testing.T) {
	p := One(kinds.All)
	for range 100 {
		p = Plus(Star(Maybe(p)))
	}
	if n := len(Make(p).States); n > 500 {
		t.Errorf("%d states for 300 parts", n)
	}
}
