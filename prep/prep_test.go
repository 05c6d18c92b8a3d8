package prep

import (
	"fmt"
	"slices"
	"strings"
	"testing"

	"spinneret/api"
	"spinneret/lex"
)

type call func(l []api.Token) ([]api.Token, api.Errno, int)

// told is what a call makes of a source: its tokens with blanks between, or its error.
func told(t *testing.T, f call, s string) string {
	t.Helper()
	l, e, at := lex.Tokens(s)
	if e != api.OK {
		t.Fatalf("%q: token error %d at %d", s, e, at)
	}
	before := slices.Clone(l)
	out, e, at := f(l)
	if !slices.Equal(l, before) {
		t.Errorf("%q: the argument was changed", s)
	}
	if e != api.OK {
		if out != nil {
			t.Errorf("%q: tokens beside an error", s)
		}
		return wrong(e, at)
	}
	if at != 0 || out[len(out)-1] != l[len(l)-1] {
		t.Errorf("%q: place %d, end %v", s, at, out[len(out)-1])
	}
	var words []string
	for _, k := range out[:len(out)-1] {
		words = append(words, k.Text)
	}
	return strings.Join(words, " ")
}

func wrong(e api.Errno, at int) string { return fmt.Sprintf("error %d at %d", e, at) }

func check(t *testing.T, f call, cases map[string]string) {
	t.Helper()
	for s, want := range cases {
		if got := told(t, f, s); got != want {
			t.Errorf("%.80q: got %.80s, want %.80s", s, got, want)
		}
	}
}

// P2.1: uses of macros.
func TestMacros(t *testing.T) {
	check(t, Macros, map[string]string{
		"#define N 3\nint a[N];":                      "int a [ 3 ] ;",
		"#define M(x,y) x+y\nM(1,(2,3)) M":            "1 + ( 2 , 3 ) M",
		"#define M (x) x\nM(1)":                       "( x ) x ( 1 )",
		"#define M() a\nM() M M ( )":                  "a M a",
		"#define M() a\nM(1)":                         wrong(api.ErrPrep, 14),
		"#define M(x) <x>\nM()":                       "< >",
		"#define M(x,y) a\n M(1)":                     wrong(api.ErrPrep, 18),
		"#define M(x) a\n M(1,2)":                     wrong(api.ErrPrep, 16),
		"#define M(x) x\n M(1":                        wrong(api.ErrPrep, 16),
		"#define M(x) x\nM(1\n#define N 2\n)":         wrong(api.ErrPrep, 15),
		"#define M(x) x\n#define N M\nN(1)":           "M ( 1 )",
		"#define M(x) [x]\n#define N M(\nN 1)":        wrong(api.ErrPrep, 30),
		"#define M(x) x x\nM(M(1))":                   "1 1 1 1",
		"#define M(x) x\nM([1,2])":                    wrong(api.ErrPrep, 15),
		"#define A B\n#define B 1\nA":                 "1",
		"#define A 1\nA\n#define A 2\nA\n#undef A\nA": "1 2 A",
		"#undef A":                     "",
		"#define A A\nA":               wrong(api.ErrDeep, 12),
		"#define if 1\nif":             "1",
		"a\n#define A\nA b A":          "a b",
		"x # define A 1\nA":            "x # define A 1 A",
		"#define A(x) x\nA(\"q\" 'c')": "q 'c'",
	})
}

// P2.1: what directives may not be.
func TestDirectives(t *testing.T) {
	check(t, Macros, map[string]string{
		"#":                               wrong(api.ErrPrep, 0),
		" #\nx":                           wrong(api.ErrPrep, 1),
		"#3":                              wrong(api.ErrPrep, 0),
		"#elif 1":                         wrong(api.ErrPrep, 0),
		"a\n#define":                      wrong(api.ErrPrep, 2),
		"#define 3":                       wrong(api.ErrPrep, 0),
		"#define defined 1":               wrong(api.ErrPrep, 0),
		"#define A(x":                     wrong(api.ErrPrep, 0),
		"#define A(x y) 1":                wrong(api.ErrPrep, 0),
		"#define A(x,) 1":                 wrong(api.ErrPrep, 0),
		"#define A(1) 1":                  wrong(api.ErrPrep, 0),
		"#define A(x,x) 1":                wrong(api.ErrPrep, 0),
		"#define A(a,b,c,d,e,f,g,h) a\n":  "",
		"#define A(a,b,c,d,e,f,g,h,i) a":  wrong(api.ErrPrep, 0),
		"#undef":                          wrong(api.ErrPrep, 0),
		"#undef A B":                      wrong(api.ErrPrep, 0),
		"#ifdef\n#endif":                  wrong(api.ErrPrep, 0),
		"#ifdef A B\n#endif":              wrong(api.ErrPrep, 0),
		"#ifndef 1\n#endif":               wrong(api.ErrPrep, 0),
		"#endif":                          wrong(api.ErrPrep, 0),
		"#else":                           wrong(api.ErrPrep, 0),
		"#if\n#endif":                     wrong(api.ErrPrep, 0),
		"#ifdef A":                        wrong(api.ErrPrep, 8),
		"#ifdef A\n#endif x":              wrong(api.ErrPrep, 9),
		"#ifdef A\n#else x\n#endif":       wrong(api.ErrPrep, 9),
		"#ifdef A\n#else\n#else\n#endif":  wrong(api.ErrPrep, 15),
		"#define A(x) x\nA(\n#if 0\n#foo": wrong(api.ErrPrep, 15),
	})
}

// P2.1: what is kept.
func TestKept(t *testing.T) {
	check(t, Macros, map[string]string{
		"#ifdef A\nx\n#else\ny\n#endif\nz":                                      "y z",
		"#define A\n#ifdef A\nx\n#else\ny\n#endif\nz":                           "x z",
		"#ifndef A\nx\n#else\ny\n#endif":                                        "x",
		"#if defined(A) || 2 > 1\nx\n#endif":                                    "x",
		"#ifdef A\n#define\n#\n#nonsense\n#undef\n#endif\nz":                    "z",
		"#ifdef A\n#if\nx\n#else\ny\n#endif\n#ifdef\n#endif\n#else\nz\n#endif":  "z",
		"#ifdef A\n#ifndef 1 2\nx\n#else y\n#endif\n#endif":                     wrong(api.ErrPrep, 23),
		"#ifdef A\n#define A 1\n#endif\nA":                                      "A",
		"#if 1\n#if 0\na\n#else\nb\n#endif\n#else\n#if 1\nc\n#endif\n#endif\nd": "b d",
	})
	open := strings.Repeat("#ifdef A\n", api.MaxMacro)
	close := strings.Repeat("#endif\n", api.MaxMacro)
	check(t, Macros, map[string]string{
		open + close + "x":     "x",
		open + "#if\n" + close: wrong(api.ErrDeep, len(open)),
		strings.Replace(open, "def", "ndef", -1) + "#if 1\n":   wrong(api.ErrDeep, len(open)+16),
		strings.Replace(open, "def", "ndef", -1) + "#if 1 +\n": wrong(api.ErrPrep, len(open)+16),
	})
}

// P2.2.
func TestConditions(t *testing.T) {
	nots := strings.Repeat("! ", api.MaxMacro)
	opens, closes := strings.Repeat("(", api.MaxMacro), strings.Repeat(")", api.MaxMacro)
	for c, want := range map[string]string{
		"1":                          "y",
		"0":                          "",
		"A":                          "",
		"N":                          "y",
		"!A":                         "y",
		"! !N":                       "y",
		"N == 3":                     "y",
		"N != 3":                     "",
		"2 < N":                      "y",
		"N < N":                      "",
		"N <= N":                     "y",
		"N > N":                      "",
		"N >= N":                     "y",
		"(2 || 0) == 1":              "y",
		"(2 && 5) == 1":              "y",
		"1 && 1":                     "y",
		"1 && 0":                     "",
		"0 && 0 || 1":                "y",
		"1 || 1 && 0":                "y",
		"(1 || 1) && 0":              "",
		"!(3 == 3)":                  "",
		"defined N":                  "y",
		"defined ( N )":              "y",
		"defined A":                  "",
		"!defined(A)":                "y",
		"M(0, 1)":                    "y",
		"Q":                          "",
		"'a' == 97":                  "y",
		"defined":                    wrong(api.ErrPrep, 50),
		"defined(":                   wrong(api.ErrPrep, 50),
		"defined(N":                  wrong(api.ErrPrep, 50),
		"defined 3":                  wrong(api.ErrPrep, 50),
		"defined(3)":                 wrong(api.ErrPrep, 50),
		"!!N":                        wrong(api.ErrPrep, 50),
		"1 2":                        wrong(api.ErrPrep, 50),
		"1 +":                        wrong(api.ErrPrep, 50),
		"1 <":                        wrong(api.ErrPrep, 50),
		"1 < 2 < 3":                  wrong(api.ErrPrep, 50),
		"(1":                         wrong(api.ErrPrep, 50),
		")":                          wrong(api.ErrPrep, 50),
		"\"x\"":                      wrong(api.ErrPrep, 50),
		"R N":                        wrong(api.ErrPrep, 50),
		"M(1)":                       wrong(api.ErrPrep, 54),
		nots + "1":                   wrong(api.ErrDeep, 50),
		nots + ")":                   wrong(api.ErrDeep, 50),
		nots:                         wrong(api.ErrPrep, 50),
		nots[2:] + "0":               "y",
		opens + "1" + closes:         wrong(api.ErrDeep, 50),
		opens[1:] + "1" + closes[1:]: "y",
	} {
		s := "#define N 3\n#define M(x,y) x||y\n#define R defined\n#if " + c + "\ny\n#endif"
		if got := told(t, Macros, s); got != want {
			t.Errorf("%s: got %s, want %s", c, got, want)
		}
	}
}

// P2.1, P2.4: how many there may be.
func TestManyMacros(t *testing.T) {
	var defs strings.Builder
	for i := range api.MaxMacros {
		fmt.Fprintf(&defs, "#define A%d x\n", i)
	}
	s := defs.String()
	x := func(n int) string { return strings.TrimSpace(strings.Repeat("x ", n)) }
	two := "#define T x x\n"
	check(t, Macros, map[string]string{
		s + "A63":                     "x",
		s + "#define B 1":             wrong(api.ErrMany, len(s)),
		s + "#define A0 1\nA0":        "1",
		s + "#undef A0\n#define B\nB": "",
		"#define U\n" + strings.Repeat("U ", api.MaxUses):                         "",
		"#define U\n" + strings.Repeat("U ", api.MaxUses+1):                       wrong(api.ErrMany, 10+2*api.MaxUses),
		"#define U\n" + strings.Repeat("U ", api.MaxUses) + "\n#if U\n":           wrong(api.ErrMany, 10+2*api.MaxUses+5),
		two + strings.Repeat("T ", 3000) + "\n" + x(2192):                         x(8192),
		two + strings.Repeat("T ", 3000) + "\n" + x(2193):                         wrong(api.ErrMany, len(two)+6000+1+2*2192),
		two + strings.Repeat("T ", 3000) + "\n#undef Z\n" + x(2193) + "\n#if 1\n": wrong(api.ErrMany, len(two)+6000+10+2*2192),
		two + strings.Repeat("T ", 3000) + "\n#define F(a)\n" + x(2193) + " F(":   wrong(api.ErrPrep, len(two)+6000+14+2*2193),
		two + x(2193) + strings.Repeat(" T", 3000):                                wrong(api.ErrMany, len(two)+2*2193+2*2999),
	})
	// What comes of one row is counted ahead of what is wrong behind that.
	check(t, Macros, map[string]string{
		two + "#define F(a)\n" + strings.Repeat("T ", 4000) + x(193) + " F(":  wrong(api.ErrMany, len(two)+13+8000+2*192),
		two + "#define F(a)\n" + x(2193) + strings.Repeat(" T", 3000) + " F(": wrong(api.ErrMany, len(two)+13+2*2193+2*2999),
	})
	// A body of 4000 parameters, used with 3 tokens each.
	body := strings.TrimSpace(strings.Repeat("a ", 4000))
	check(t, Macros, map[string]string{
		"#define F(a) " + body + "\n\nF(x x)":   strings.TrimSpace(strings.Repeat("x x ", 4000)),
		"#define F(a) " + body + "\n\nF(x x x)": wrong(api.ErrMany, 13+len(body)+2),
	})
	nested := "#define A0 x\n"
	for i := range 16 {
		nested += fmt.Sprintf("#define A%d A%d\n", i+1, i)
	}
	check(t, Macros, map[string]string{nested + "A15": "x", nested + "A16": wrong(api.ErrDeep, len(nested))})
}

// P2.3.
func TestInlines(t *testing.T) {
	check(t, Inlines, map[string]string{
		"inline p(a) { x = a; }\np(f[1,2])":            "{ x = f [ 1 , 2 ] ; }",
		"inline p() { x }\np() p":                      "{ x } p",
		"inline p(a,b) { a b }\np({1,2},(3,4))":        "{ { 1 , 2 } ( 3 , 4 ) }",
		"inline p(a) { a }\np([1))":                    "{ [ 1 ) }",
		"inline p(a) { a }\np(1]":                      wrong(api.ErrPrep, 18),
		"inline p(a) { a }\np(1}":                      wrong(api.ErrPrep, 18),
		"inline p(a) { a }\np(1":                       wrong(api.ErrPrep, 18),
		"inline p(a) { a }\np(1,2)":                    wrong(api.ErrPrep, 18),
		"inline p() { a }\np(1)":                       wrong(api.ErrPrep, 17),
		"p(1) inline p(a) { a { a } } p(2)":            "p ( 1 ) { 2 { 2 } }",
		"inline p() { 1 } inline q() { p() p() }\nq()": "{ { 1 } { 1 } }",
		"inline p() { p() } p()":                       wrong(api.ErrDeep, 19),
		"{ inline p() { } }":                           "{ inline p ( ) { } }",
		"} { inline p() { x } } p()":                   "} { } { x }",
		"} inline p() { x } p()":                       "} { x }",
		"} { inline p() { x } p()":                     "} { { x }",
		"x inline":                                     wrong(api.ErrPrep, 2),
		"x inline p":                                   wrong(api.ErrPrep, 2),
		"x inline p(":                                  wrong(api.ErrPrep, 2),
		"x inline 3() { }":                             wrong(api.ErrPrep, 2),
		"x inline p(a,a) { }":                          wrong(api.ErrPrep, 2),
		"x inline p(a,) { }":                           wrong(api.ErrPrep, 2),
		"x inline p(a)":                                wrong(api.ErrPrep, 2),
		"x inline p(a) x":                              wrong(api.ErrPrep, 2),
		"x inline p(a) { {":                            wrong(api.ErrPrep, 2),
		"x inline p(a,b,c,d,e,f,g,h,i) { }":            wrong(api.ErrPrep, 2),
		"inline p() { } inline p() { }":                wrong(api.ErrPrep, 15),
		"inline p(a) { a } p( inline q() { } )":        wrong(api.ErrPrep, 18),
		"a # define b":                                 "a # define b",
	})
	var defs strings.Builder
	for i := range api.MaxMacros {
		fmt.Fprintf(&defs, "inline A%d() { x }\n", i)
	}
	s := defs.String()
	check(t, Inlines, map[string]string{
		s + "A63()":           "{ x }",
		s + "inline B() { }":  wrong(api.ErrMany, len(s)),
		s + "inline A1() { }": wrong(api.ErrPrep, len(s)),
	})
	body := strings.TrimSpace(strings.Repeat("a ", 8190/2))
	head := "inline F(a) { " + body + " }\n"
	check(t, Inlines, map[string]string{
		head + "F(x x)":   "{ " + strings.TrimSpace(strings.Repeat("x x ", 4095)) + " }",
		head + "F(x x x)": wrong(api.ErrMany, len(head)),
		head + "F(x x) y": wrong(api.ErrMany, len(head)+7),
	})
}

// P2.1, P2.3: replaced tokens have the place and the line of the name that is used.
func TestPlaces(t *testing.T) {
	l, _, _ := lex.Tokens("#define M(x) x 1\n\n M(2)")
	out, _, _ := Macros(l)
	want := []api.Token{{Kind: api.TNum, At: 19, Line: 3, Text: "2", N: 2}, {Kind: api.TNum, At: 19, Line: 3, Text: "1", N: 1}, {Kind: api.TEnd, At: 23, Line: 3}}
	if !slices.Equal(out, want) {
		t.Errorf("got %v", out)
	}
	l, _, _ = lex.Tokens("inline q(x) { x }\n\n q(2)")
	out, _, _ = Inlines(l)
	want = []api.Token{{Kind: api.TMark, At: 20, Line: 3, Text: "{"}, {Kind: api.TNum, At: 20, Line: 3, Text: "2", N: 2}, {Kind: api.TMark, At: 20, Line: 3, Text: "}"}, {Kind: api.TEnd, At: 24, Line: 3}}
	if !slices.Equal(out, want) {
		t.Errorf("got %v", out)
	}
}

// P2.4, and rows that may not be.
func TestRows(t *testing.T) {
	end := api.Token{Kind: api.TEnd, At: 7}
	x := api.Token{Kind: api.TName, Text: "x"}
	for _, f := range []call{Macros, Inlines} {
		for _, l := range [][]api.Token{nil, {x}, {end, x}, {end, end}, {end, x, end}} {
			if out, e, at := f(l); out != nil || e != api.ErrArg || at != 0 {
				t.Errorf("%v: error %d", l, e)
			}
		}
		odd := []api.Token{x, {Kind: 9, Text: "#", At: -5, Line: 4}, {Kind: api.TText, Text: "inline", Line: 9}, end}
		if out, e, _ := f(odd); e != api.OK || !slices.Equal(out, odd) {
			t.Errorf("error %d, %v", e, out)
		}
	}
	// A place behind the name goes round as an int64 does.
	far := []api.Token{{Kind: api.TMark, Text: "#"}, {Kind: api.TName, Text: "define"}, {Kind: api.TName, Text: "M", At: 1<<63 - 1}, {Kind: api.TMark, Text: "(", At: -1 << 63}, {Kind: api.TMark, Text: ")"}, {Kind: api.TName, Text: "M", Line: 1}, end}
	if out, e, _ := Macros(far); e != api.OK || len(out) != 2 {
		t.Errorf("error %d, %v", e, out)
	}
}

// Names and marks are told by their Kind, too.
func TestKinds(t *testing.T) {
	name := func(s string) api.Token { return api.Token{Kind: api.TName, Text: s} }
	mark := func(s string) api.Token { return api.Token{Kind: api.TMark, Text: s} }
	text := func(s string) api.Token { return api.Token{Kind: api.TText, Text: s} }
	end := api.Token{Kind: api.TEnd}
	on := func(line int, l ...api.Token) []api.Token {
		for i := range l {
			l[i].Line = line
		}
		return l
	}
	l := append(on(1, mark("#"), name("define"), name("M"), mark("("), name("a"), mark(")"), name("a"), text("a")), on(2, text("M"), name("M"), mark("("), text(")"), text("("), mark(")"))...)
	for i := range l {
		l[i].At = i
	}
	// The ( stands right behind the name: that has one byte.
	out, e, _ := Macros(append(l, end))
	var words []string
	for _, k := range out {
		words = append(words, k.Text)
	}
	if got := strings.Join(words, " "); e != api.OK || got != "M ) ( a " {
		t.Errorf("error %d, %q", e, got)
	}
	l = on(1, text("{"), name("inline"), name("p"), mark("("), mark(")"), mark("{"), text("}"), text("}"), mark("}"), text("p"), name("p"), mark("("), mark(")"))
	out, e, _ = Inlines(append(l, end))
	words = nil
	for _, k := range out {
		words = append(words, k.Text)
	}
	if got := strings.Join(words, " "); e != api.OK || got != "{ p { } } } " {
		t.Errorf("error %d, %q", e, got)
	}
}
