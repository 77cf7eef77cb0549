package cleave_test

import (
	"strings"
	"testing"

	"cleave/api"
	"cleave/cleave"
)

// fault is what Compile answers to a text.
type fault struct {
	text string
	no   api.Errno
	at   int
}

func checkCompile(t *testing.T, wants ...fault) {
	t.Helper()
	for _, w := range wants {
		r, no, at := cleave.Compile(w.text)
		if no != w.no || at != w.at || (r != nil) != (no == api.OK) {
			t.Errorf("Compile(%.80q) = rules %v, %d, %d; want %d, %d", w.text, r != nil, no, at, w.no, w.at)
		}
	}
}

func checkRules(t *testing.T, texts ...string) {
	t.Helper()
	for _, text := range texts {
		checkCompile(t, fault{text, api.OK, 0})
	}
}

func nested(n int) string { return strings.Repeat("(", n) + "any" + strings.Repeat(")", n) }

// classes has n classes of 11 bytes each.
func classes(n int) string {
	s := ""
	for k := range n {
		digit := string(rune('0' + k))
		s += "class A" + digit + "=" + digit + ";"
	}
	return s
}

func TestCompileTakesRules(t *testing.T) {
	checkRules(t,
		"", " ", "\n", " \n\n ", "cut|;", "join|;", "cut | ;", "\ncut\n|\n;\n", "cut any|;join|any;",
		"class A=61;", "class A = 61 ;", "class A=61-7A;", "class A = 61 - 7A , 41 - 5A ;", "class A=61,62,63;",
		"class A = 61; class B = 62; cut A | B;", "class A = 61;\nclass B = 62;\njoin A B | B A;\n",
		"cut any other bad | bad other any;", "cut any* any+ any? | ;", "cut any / other / bad | any any / bad;",
		"cut (any) | (any / bad)* (other bad)+;", "cut(any)(any)|;", "cut any*any|;", "cut any/any|;", "cut (any*)* | ((any+)?)+;",
		"class R = D; class N = A; join R | N; cut R / N | ; join | ;",
	)
}

func TestCompileTakesEveryName(t *testing.T) {
	checkRules(t,
		"class a=1;cut a|;", "class Z=1;cut Z|;", "class 0=1;cut 0|;", "class 9zZ=1;cut 9zZ|9zZ;", "class 61 = 61; cut 61 | 61*;",
		"class Class=1;class CUT=2;class Join=3;class ANY=4;class oTHER=5;class Bad=6;join Class CUT Join ANY|oTHER Bad;",
		"class classs=1;class cu=2;class join1=3;class anyany=4;", "class a = 1; class A = 2; cut a | A;",
		"class "+strings.Repeat("n", 900)+"=1;",
	)
}

func TestCompileTakesTheEnds(t *testing.T) {
	checkRules(t,
		strings.Repeat(" ", api.MaxText), strings.Repeat(" ", api.MaxText-5)+"cut|;", classes(api.MaxClasses),
		strings.Repeat("cut|;", api.MaxRules), "cut|;join|;cut|;join|;", classes(api.MaxClasses)+strings.Repeat("join A0|A5;", api.MaxRules),
		"cut any any other bad | any any any any;", "cut (any / (any)) (any any) | (any) / (any) / (any) / any;",
		"cut "+nested(api.MaxNest)+" | "+nested(api.MaxNest)+";", "cut "+strings.Repeat(nested(api.MaxNest)+" ", api.MaxAtoms)+"|;",
		"class A = 0;", "class A = 000000;", "class A = 10FFFF;", "class A = 10ffff;", "class A = 0-D7FF, E000-10FFFF;",
		"class A = D7FF; class B = E000;", "class A = 61-61;", "class A = 5-7, 4, 8, 0-3, 9;", "class A = 5-7; class B = 4, 8;",
	)
}

func TestCompileErrLong(t *testing.T) {
	checkCompile(t,
		fault{strings.Repeat(" ", api.MaxText+1), api.ErrLong, 0},
		fault{strings.Repeat("(", api.MaxText+1), api.ErrLong, 0},
		fault{"cut|;" + strings.Repeat("\n", api.MaxText-4), api.ErrLong, 0},
		fault{"x" + strings.Repeat(" ", api.MaxText), api.ErrLong, 0},
		fault{strings.Repeat("(", api.MaxText), api.ErrSyntax, 0},
		fault{strings.Repeat("\xff", 3000000), api.ErrLong, 0},
	)
}

// Every beginning of these texts that ends ahead of a blank leaves something open: it ends too early, at its length.
func TestCompileErrSyntaxAtTheEnd(t *testing.T) {
	for _, text := range []string{"class Ab = 61 - 7A , 41;", "cut any | other;", "join ( bad / any * ) + | any ?;"} {
		if _, no, _ := cleave.Compile(text); no != api.OK {
			t.Fatalf("Compile(%q) = %d", text, no)
		}
		for i := range text {
			if text[i] == ' ' {
				checkCompile(t, fault{text[:i], api.ErrSyntax, i}, fault{text[:i] + " \n", api.ErrSyntax, i + 2})
			}
		}
	}
	checkCompile(t,
		fault{"cut", api.ErrSyntax, 3}, fault{"join", api.ErrSyntax, 4}, fault{"class", api.ErrSyntax, 5}, fault{"class A", api.ErrSyntax, 7},
		fault{"class A=", api.ErrSyntax, 8}, fault{"class A=1", api.ErrSyntax, 9}, fault{"class A=1-", api.ErrSyntax, 10}, fault{"class A=1-2", api.ErrSyntax, 11},
		fault{"class A=1,", api.ErrSyntax, 10}, fault{"cut any", api.ErrSyntax, 7}, fault{"cut any*", api.ErrSyntax, 8}, fault{"cut any/", api.ErrSyntax, 8},
		fault{"cut (", api.ErrSyntax, 5}, fault{"cut (any", api.ErrSyntax, 8}, fault{"cut (any)", api.ErrSyntax, 9}, fault{"cut|", api.ErrSyntax, 4}, fault{"cut|any", api.ErrSyntax, 7},
	)
}

// No byte but those of words, signs, blanks and newlines may stand anywhere.
func TestCompileErrSyntaxOfBytes(t *testing.T) {
	const good = "abcdefghijklmnopqrstuvwxyzABCDEFGHIJKLMNOPQRSTUVWXYZ0123456789 \n"
	for b := range 256 {
		s := string([]byte{byte(b)})
		if strings.Contains(good, s) {
			continue
		}
		checkCompile(t, fault{s, api.ErrSyntax, 0}, fault{"class A=1; " + s, api.ErrSyntax, 11}, fault{"class " + s, api.ErrSyntax, 6}, fault{"class A=" + s, api.ErrSyntax, 8}, fault{"cut|;" + s, api.ErrSyntax, 5})
		if !strings.Contains("*+?/|(", s) {
			checkCompile(t, fault{"cut any" + s + "|;", api.ErrSyntax, 7})
		}
		if s != "-" && s != "," && s != ";" {
			checkCompile(t, fault{"class A=1" + s + "2;", api.ErrSyntax, 9})
		}
	}
	checkCompile(t, fault{"cut é | ;", api.ErrSyntax, 4}, fault{"cut any\u00a0| ;", api.ErrSyntax, 7}, fault{"cut|;\r\n", api.ErrSyntax, 5}, fault{"\ufeffcut|;", api.ErrSyntax, 0})
}

func TestCompileErrSyntaxOfWords(t *testing.T) {
	checkCompile(t,
		fault{"x", api.ErrSyntax, 0}, fault{"  x", api.ErrSyntax, 2}, fault{"any", api.ErrSyntax, 0}, fault{"Cut|;", api.ErrSyntax, 0}, fault{"classA=1;", api.ErrSyntax, 0}, fault{"cutany|;", api.ErrSyntax, 0},
		fault{"cut|;x", api.ErrSyntax, 5}, fault{"cut|;class A=1;", api.ErrSyntax, 5}, fault{"class A=1;A", api.ErrSyntax, 10},
		fault{"cut class|;", api.ErrSyntax, 4}, fault{"cut cut|;", api.ErrSyntax, 4}, fault{"cut join|;", api.ErrSyntax, 4}, fault{"cut any cut|;", api.ErrSyntax, 8}, fault{"cut|join;", api.ErrSyntax, 4}, fault{"cut|any class;", api.ErrSyntax, 8},
		fault{"class A B=1;", api.ErrSyntax, 8}, fault{"class A=1 2;", api.ErrSyntax, 10}, fault{"class A=1-2 3;", api.ErrSyntax, 12},
	)
	for _, word := range []string{"class", "cut", "join", "any", "other", "bad"} {
		checkCompile(t, fault{"class " + word + "=1;", api.ErrSyntax, 6})
	}
	for _, hex := range []string{"g", "G", "1g", "g1", "0000001", "1234567", "x41", "0x41", "z", "any", "class", strings.Repeat("0", 900), strings.Repeat("f", 900)} {
		checkCompile(t, fault{"class A=" + hex + ";", api.ErrSyntax, 8}, fault{"class A=0-" + hex + ";", api.ErrSyntax, 10}, fault{"class A=0," + hex + ";", api.ErrSyntax, 10})
	}
}

func TestCompileErrSyntaxOfSigns(t *testing.T) {
	checkCompile(t,
		fault{";", api.ErrSyntax, 0}, fault{"cut|;;", api.ErrSyntax, 5}, fault{"cut;", api.ErrSyntax, 3}, fault{"cut||;", api.ErrSyntax, 4}, fault{"cut any;", api.ErrSyntax, 7}, fault{"cut|any|;", api.ErrSyntax, 7},
		fault{"cut ()|;", api.ErrSyntax, 5}, fault{"cut (any|;", api.ErrSyntax, 8}, fault{"cut|(any;", api.ErrSyntax, 8}, fault{"cut any)|;", api.ErrSyntax, 7}, fault{"cut ((any)|;", api.ErrSyntax, 10}, fault{"cut|any);", api.ErrSyntax, 7},
		fault{"cut *|;", api.ErrSyntax, 4}, fault{"cut any**|;", api.ErrSyntax, 8}, fault{"cut any*+|;", api.ErrSyntax, 8}, fault{"cut any+?|;", api.ErrSyntax, 8}, fault{"cut any? *|;", api.ErrSyntax, 9}, fault{"cut (*)|;", api.ErrSyntax, 5}, fault{"cut any/*|;", api.ErrSyntax, 8},
		fault{"cut /any|;", api.ErrSyntax, 4}, fault{"cut any/|;", api.ErrSyntax, 8}, fault{"cut any//any|;", api.ErrSyntax, 8}, fault{"cut (any/)|;", api.ErrSyntax, 9}, fault{"cut|any/;", api.ErrSyntax, 8},
		fault{"cut any,any|;", api.ErrSyntax, 7}, fault{"cut any-any|;", api.ErrSyntax, 7}, fault{"cut =|;", api.ErrSyntax, 4},
		fault{"class =1;", api.ErrSyntax, 6}, fault{"class A;", api.ErrSyntax, 7}, fault{"class A==1;", api.ErrSyntax, 8}, fault{"class A=;", api.ErrSyntax, 8}, fault{"class A=-1;", api.ErrSyntax, 8}, fault{"class A=1-;", api.ErrSyntax, 10}, fault{"class A=1--2;", api.ErrSyntax, 10},
		fault{"class A=1-2-3;", api.ErrSyntax, 11}, fault{"class A=1,;", api.ErrSyntax, 10}, fault{"class A=,1;", api.ErrSyntax, 8}, fault{"class A=1,,2;", api.ErrSyntax, 10}, fault{"class A=1|;", api.ErrSyntax, 9}, fault{"class A=(1);", api.ErrSyntax, 8},
	)
}

func TestCompileErrName(t *testing.T) {
	checkCompile(t,
		fault{"cut x|;", api.ErrName, 4}, fault{"cut|x;", api.ErrName, 4}, fault{"cut 61|;", api.ErrName, 4}, fault{"cut Any|;", api.ErrName, 4}, fault{"cut OTHER|;", api.ErrName, 4}, fault{"cut bads|;", api.ErrName, 4},
		fault{"class A=61;cut a|;", api.ErrName, 15}, fault{"class Ab=61;cut A|;", api.ErrName, 16}, fault{"class A=61;cut Ab|;", api.ErrName, 15}, fault{"class A=61;cut A x|;", api.ErrName, 17}, fault{"class A=61;cut A|A/x;", api.ErrName, 19},
		fault{"cut (x", api.ErrName, 5}, fault{"cut x_|;", api.ErrName, 4}, fault{"cut x", api.ErrName, 4}, fault{"cut any (any) any* x+|;", api.ErrName, 19},
	)
}

func TestCompileErrTwice(t *testing.T) {
	checkCompile(t,
		fault{"class A=1;class A=2;", api.ErrTwice, 16}, fault{"class A=1;class A=1;", api.ErrTwice, 16}, fault{"class A=1;class A", api.ErrTwice, 16}, fault{"class A=1;class A_", api.ErrTwice, 16},
		fault{"class A=1;class B=2;class A=3;", api.ErrTwice, 26}, fault{"class A=1;class B=2;class B=3;", api.ErrTwice, 26}, fault{"class 1=1;class  1=2;", api.ErrTwice, 17},
	)
}

func TestCompileErrRange(t *testing.T) {
	checkCompile(t,
		fault{"class A=110000;", api.ErrRange, 8}, fault{"class A=FFFFFF;", api.ErrRange, 8}, fault{"class A=0-110000;", api.ErrRange, 10}, fault{"class A=E000-110000;", api.ErrRange, 13}, fault{"class A=1,110000;", api.ErrRange, 10},
		fault{"class A=110000-1;", api.ErrRange, 8}, fault{"class A=110000-;", api.ErrRange, 8}, fault{"class A=110000", api.ErrRange, 8}, fault{"class A=110000-110000;", api.ErrRange, 8},
		fault{"class A=2-1;", api.ErrRange, 10}, fault{"class A=62 - 61", api.ErrRange, 13}, fault{"class A=10FFFF-0;", api.ErrRange, 15}, fault{"class A=E000-D7FF;", api.ErrRange, 13},
		fault{"class A=D800;", api.ErrRange, 8}, fault{"class A=DFFF;", api.ErrRange, 8}, fault{"class A=dabc;", api.ErrRange, 8}, fault{"class A=D7FF-D800;", api.ErrRange, 13}, fault{"class A=DFFF-E000;", api.ErrRange, 13}, fault{"class A=0-10FFFF;", api.ErrRange, 10}, fault{"class A=D900-DA00;", api.ErrRange, 13},
		fault{"class A=D800-;", api.ErrSyntax, 13}, fault{"class A=D800-x;", api.ErrSyntax, 13}, fault{"class A=D800 x", api.ErrRange, 8}, fault{"class A=D800_", api.ErrRange, 8}, fault{"class A=D800 ", api.ErrRange, 8},
	)
}

func TestCompileErrRangeOfCodePointsTaken(t *testing.T) {
	checkCompile(t,
		fault{"class A=1,1;", api.ErrRange, 10}, fault{"class A=1-3,3;", api.ErrRange, 12}, fault{"class A=1-3,1-1;", api.ErrRange, 14}, fault{"class A=5,4-6;", api.ErrRange, 12}, fault{"class A=4-6,3-4;", api.ErrRange, 14}, fault{"class A=4-6,6-7;", api.ErrRange, 14}, fault{"class A=1,2,3,2;", api.ErrRange, 14},
		fault{"class A=1;class B=1;", api.ErrRange, 18}, fault{"class A=1;class B=01;", api.ErrRange, 18}, fault{"class A=1;class B=0-2;", api.ErrRange, 20}, fault{"class A=0-2;class B=1;", api.ErrRange, 20}, fault{"class A=10FFFF;class B=E000-10FFFF;", api.ErrRange, 28}, fault{"class A=0;class B=1;class C=0;", api.ErrRange, 28},
		fault{"class A=1;class B=1-", api.ErrSyntax, 20}, fault{"class A=1;class B=1-;", api.ErrSyntax, 20}, fault{"class A=1;class B=1", api.ErrRange, 18}, fault{"class A=1;class B=1,", api.ErrRange, 18}, fault{"class A=1;class B=1 x", api.ErrRange, 18},
	)
}

func TestCompileErrMany(t *testing.T) {
	four := strings.Repeat("cut|;", api.MaxRules)
	checkCompile(t,
		fault{classes(7), api.ErrMany, 66}, fault{classes(6) + " class", api.ErrMany, 67}, fault{classes(6) + "class A0=", api.ErrMany, 66},
		fault{four + "cut|;", api.ErrMany, 20}, fault{four + "join|;", api.ErrMany, 20}, fault{four + "\njoin", api.ErrMany, 21}, fault{four + "cut x", api.ErrMany, 20},
		fault{"cut any any any any any|;", api.ErrMany, 20}, fault{"cut|any any any any bad;", api.ErrMany, 20}, fault{"cut any*any/any(any other", api.ErrMany, 20}, fault{"cut (any/any)(any/any)bad|;", api.ErrMany, 22}, fault{"cut any any any any(any)|;", api.ErrMany, 20}, fault{"cut any any any any|any any any any other;", api.ErrMany, 36},
		fault{"class A=1;cut A A A A A|;", api.ErrMany, 22}, fault{"cut any any any any ()|;", api.ErrSyntax, 21},
		fault{"cut " + nested(5) + "|;", api.ErrMany, 8}, fault{"cut|" + nested(5) + ";", api.ErrMany, 8}, fault{"cut (((((", api.ErrMany, 8}, fault{"cut " + nested(4) + nested(5), api.ErrMany, 19}, fault{"cut ((any)(any)(any)((((any))))|;", api.ErrMany, 23},
	)
}

// Where two errors are met at one byte, the one that is named first is told.
func TestCompileTellsTheErrorNamedFirst(t *testing.T) {
	four := strings.Repeat("cut|;", api.MaxRules)
	checkCompile(t,
		fault{classes(6) + "cut|;class", api.ErrSyntax, 71}, fault{four + "class", api.ErrSyntax, 20}, fault{"cut any any any any cut", api.ErrSyntax, 20}, fault{"cut any any any any x", api.ErrName, 20}, fault{"class A=0110000;", api.ErrSyntax, 8},
	)
}

// Of errors at several bytes the one at the first byte is told, whatever its number.
func TestCompileTellsTheErrorMetFirst(t *testing.T) {
	checkCompile(t,
		fault{"class A=2-1;class A=D800;cut x|;", api.ErrRange, 10}, fault{"class A=1;class A=D800;\t", api.ErrTwice, 16}, fault{"cut x|\t", api.ErrName, 4}, fault{"cut (((((x\t", api.ErrMany, 8}, fault{classes(7) + "\t", api.ErrMany, 66}, fault{"cut (x|((((((", api.ErrName, 5},
	)
}

func TestCompileOfTheExamples(t *testing.T) {
	checkRules(t,
		"join | ;", "class L = 61-7A, 41-5A; join L | L;", "class A = 61; class B = 62; join A | B B B;", "class A = 61; class B = 62; join A | B* A;", "class R = D; class N = A; join R | N; cut R / N | ; join | ;",
	)
	checkCompile(t,
		fault{"cut", api.ErrSyntax, 3}, fault{"cut x | ;", api.ErrName, 4}, fault{"class A = 61; class B = 60-62;", api.ErrRange, 27}, fault{"cut (((((any))))) | ;", api.ErrMany, 8},
	)
}
