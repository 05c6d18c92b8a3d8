package syntax

import (
	"fmt"
	"slices"
	"strings"
	"testing"

	"spinneret/api"
	"spinneret/lex"
)

var kinds = map[int]string{1: "num", 2: "ref", 3: "un", 4: "bin", 5: "cond", 6: "call", 7: "poll", 8: "key", 9: "ask", 10: "at", 11: "remote", 12: "run", 13: "eval", 14: "any",
	20: "seq", 21: "decl", 22: "var", 23: "type", 24: "chan", 30: "if", 31: "do", 32: "for", 33: "forin", 34: "select", 35: "atomic", 36: "dstep", 37: "block", 38: "send", 39: "recv", 40: "set", 41: "step", 42: "else", 43: "break", 44: "goto", 45: "label", 46: "print", 47: "assert", 48: "expr", 49: "unless", 50: "mark",
	60: "all", 61: "proc", 62: "head", 63: "init", 64: "never", 65: "mtype", 66: "name", 67: "def"}

// show is a node and what it has: kind, text and number, kids in brackets.
func show(t api.Tree, node int) string {
	n := t[node]
	s := kinds[n.Kind]
	if n.Text != "" {
		s += ":" + n.Text
	}
	if n.N != 0 {
		s += fmt.Sprint(":", n.N)
	}
	if len(n.Kids) > 0 {
		var l []string
		for _, k := range n.Kids {
			l = append(l, show(t, k))
		}
		s += "[" + strings.Join(l, " ") + "]"
	}
	return s
}

func wrong(e api.Errno, at int) string { return fmt.Sprintf("error %d at %d", e, at) }

func told(s string) string {
	t, e, at := Read(s)
	if e != api.OK {
		return wrong(e, at)
	}
	return show(t, len(t)-1)
}

func check(t *testing.T, head, tail string, cases map[string]string) {
	t.Helper()
	for s, want := range cases {
		if got := told(head + s); got != want && got != want+tail {
			t.Errorf("%.90s: got %.200s, want %.200s", s, got, want)
		}
	}
}

func TestModules(t *testing.T) {
	check(t, "", "", map[string]string{
		"":                               "all",
		";;":                             "all",
		"byte x = 1":                     "all[decl[type:3 var:x[num:1]]]",
		"byte x byte y":                  "all[decl[type:3 var:x] decl[type:3 var:y]]",
		"hidden bit a[3], b=2":           "all[decl:1[type:1 var:a:3 var:b[num:2]]]",
		"show bool a":                    "all[decl:2[type:2 var:a]]",
		"local T a":                      "all[decl:3[type:T:10 var:a]]",
		"short a; int b; pid c; mtype m": "all[decl[type:4 var:a] decl[type:5 var:b] decl[type:8 var:c] decl[type:7 var:m]]",
		"unsigned u : 5 = 3, v : 1":      "all[decl[type:6 var:u:5[num:3] var:v:1]]",
		"chan c[2] = [3] of { byte, T, chan }, d":                          "all[decl[type:9 var:c:2[chan:3[type:3 type:T:10 type:9]] var:d]]",
		"chan c = [0] of { int }":                                          "all[decl[type:9 var:c[chan[type:5]]]]",
		"typedef T { byte a; hidden int b[2]; }":                           "all[def:T[decl[type:3 var:a] decl:1[type:5 var:b:2]]]",
		"mtype = { a, b } mtype { c }":                                     "all[mtype[name:a name:b] mtype[name:c]]",
		"proctype p() { skip }":                                            "all[proc:p[head seq[expr[num:1]]]]",
		"active proctype p(byte x, y; T z;) priority 3 provided (x) { x }": "all[proc:p:1[head:3[decl[type:3 var:x var:y] decl[type:T:10 var:z]] ref:x seq[expr[ref:x]]]]",
		"active [7] proctype p() { 1 }":                                    "all[proc:p:7[head seq[expr[num:1]]]]",
		"init priority 255 { 1 }; never { 1 }":                             "all[init[head:255 seq[expr[num:1]]] never[seq[expr[num:1]]]]",
		"never n { 1 }":                                                    "all[never:n[seq[expr[num:1]]]]",
	})
}

func TestStatements(t *testing.T) {
	check(t, "init{", "", map[string]string{})
	for s, want := range map[string]string{
		"x = a - b - c":                     "set[ref:x bin:10[bin:10[ref:a ref:b] ref:c]]",
		"if :: q?[a] -> x++ :: else fi":     "if[seq[expr[poll[ref:q ref:a]] step:1[ref:x]] seq[else]]",
		"do :: a; -> ; b :: c; od":          "do[seq[expr[ref:a] expr[ref:b]] seq[expr[ref:c]]]",
		"for (i : 1 .. n) { 1 }":            "for[ref:i num:1 ref:n seq[expr[num:1]]]",
		"for (i in a.b) { 1; }":             "forin[ref:i ref:a:2[ref:b] seq[expr[num:1]]]",
		"select (i : a .. 3)":               "select[ref:i ref:a num:3]",
		"atomic { 1 } d_step { 2 } { 3 } 4": "atomic[seq[expr[num:1]]] dstep[seq[expr[num:2]]] block[seq[expr[num:3]]] expr[num:4]",
		"chan c = [1] of { bit } x":         "decl[type:9 var:c[chan:1[type:1]]] expr[ref:x]",
		"goto a; a: b: break":               "goto:a label:a[label:b[break]]",
		`printf("%d\n", x, 1)`:              `print:%d\n[ref:x num:1]`,
		`printf("")`:                        "print",
		"printm(x)":                         "print:1[ref:x]",
		"assert x == 1":                     "assert[bin:17[ref:x num:1]]",
		"skip":                              "expr[num:1]",
		"x--; x.y[1]++":                     "step:-1[ref:x] step:1[ref:x:2[ref:y:1[num:1]]]",
		"q!1,x; q!!a(b,3)":                  "send[ref:q num:1 ref:x] send:1[ref:q ref:a ref:b num:3]",
		"q?x,_,-3,true,eval(x+1)":           "recv[ref:q ref:x any num:-3 num:1 eval[bin:9[ref:x num:1]]]",
		"q[1]??a(false,2)":                  "recv:1[ref:q:1[num:1] ref:a num num:2]",
		"q?<x>; q??<1,y>":                   "recv:2[ref:q ref:x] recv:3[ref:q num:1 ref:y]",
		"q??[a,_] && x":                     "expr[bin:22[poll:1[ref:q ref:a any] ref:x]]",
		"a unless b; { a; } unless { b }":   "unless[expr[ref:a] expr[ref:b]] unless[block[seq[expr[ref:a]]] block[seq[expr[ref:b]]]]",
		"xr a, b[1]; xs c":                  "mark[ref:a ref:b:1[num:1]] mark:1[ref:c]",
		"T x; byte y = 1; hidden bit z":     "decl[type:T:10 var:x] decl[type:3 var:y[num:1]] decl:1[type:1 var:z]",
		"x:= 1":                             wrong(api.ErrSyntax, 9),
		"P[1]@l; P[1]:x.y; P[1]:z[2] + 3":   "expr[at:P[num:1 name:l]] expr[remote:P[num:1 ref:x:2[ref:y]]] expr[bin:9[remote:P[num:1 ref:z:1[num:2]] num:3]]",
		"run p(); run q(1, a)":              "expr[run:p] expr[run:q[num:1 ref:a]]",
	} {
		if !strings.HasPrefix(want, "error") {
			want = "all[init[head seq[" + want + "]]]"
		}
		if got := told("init { " + s + " }"); got != want {
			t.Errorf("%s: got %s, want %s", s, got, want)
		}
	}
}

func TestExpressions(t *testing.T) {
	for s, want := range map[string]string{
		"a || b && c | d ^ e & f == g < h << i + j * k": "bin:23[ref:a bin:22[ref:b bin:21[ref:c bin:20[ref:d bin:19[ref:e bin:17[ref:f bin:13[ref:g bin:11[ref:h bin:9[ref:i bin:6[ref:j ref:k]]]]]]]]]]",
		"a * b + c >> d >= e != f":                      "bin:18[bin:16[bin:12[bin:9[bin:6[ref:a ref:b] ref:c] ref:d] ref:e] ref:f]",
		"a % b / c":                                     "bin:7[bin:8[ref:a ref:b] ref:c]",
		"a > b <= c":                                    "bin:14[bin:15[ref:a ref:b] ref:c]",
		"- ! ~a + -1":                                   "bin:9[un:3[un:4[un:5[ref:a]]] un:3[num:1]]",
		"(a - b) * c":                                   "bin:6[bin:10[ref:a ref:b] ref:c]",
		"(a -> b[1] : c)":                               "cond[ref:a ref:b:1[num:1] ref:c]",
		"(P[1]:a -> (P[1]:b) : P[1]:c)":                 "cond[remote:P[num:1 ref:a] remote:P[num:1 ref:b] remote:P[num:1 ref:c]]",
		"(a -> (b -> c[1] : P[d]:e) : f)":               "cond[ref:a cond[ref:b ref:c:1[num:1] remote:P[ref:d ref:e]] ref:f]",
		"(a -> P[1]@b : f)":                             "cond[ref:a at:P[num:1 name:b] ref:f]",
		"(a -> x[P[1]:b] : f)":                          "cond[ref:a ref:x:1[remote:P[num:1 ref:b]] ref:f]",
		"timeout + np_ + _pid":                          "bin:9[bin:9[key:35 key:34] key:31]",
		"_last == _nr_pr":                               "bin:17[key:32 key:33]",
		"enabled(a) + pc_value(b)":                      "bin:9[ask:36[ref:a] ask:37[ref:b]]",
		"len(q) + full(q) + empty(q) + nfull(q) + nempty(q[1])": "bin:9[bin:9[bin:9[bin:9[call:25[ref:q] call:26[ref:q]] call:27[ref:q]] call:28[ref:q]] call:29[ref:q:1[num:1]]]",
		"true + false + skip": "bin:9[bin:9[num:1 num] num:1]",
		"a[1].b[2].c":         "ref:a:3[num:1 ref:b:3[num:2 ref:c]]",
		"q?[x(1,_)]":          "poll[ref:q ref:x num:1 any]",
	} {
		want = "all[init[head seq[assert[" + want + "]]]]"
		if got := told("init { assert " + s + " }"); got != want {
			t.Errorf("%s: got %s, want %s", s, got, want)
		}
	}
}

func TestWrong(t *testing.T) {
	for s, at := range map[string]int{
		"init { }": 7, "init { x = }": 11, "init": 4, "mtype = x": 8, "init { x = q ? y }": 15, "x = 1": 2,
		"byte": 4, "byte if": 5, "byte x[0]": 7, "byte x[a]": 7, "byte x,": 7, "unsigned x": 10, "unsigned x[1]": 10, "unsigned x : 0": 13,
		"chan c = x": 9, "chan c = [1] of byte": 16, "chan c = [x] of { byte }": 10, "chan c = [1] of { }": 18, "byte c = [1] of { byte }": 9,
		"typedef T { }": 12, "typedef T { byte x": 18, "typedef { byte x }": 8, "typedef T { byte x;; }": 19, "typedef if { byte x }": 8,
		"mtype { }": 8, "mtype { a, }": 11, "mtype { a b }": 10, "hidden mtype = { a }": 13, "hidden show byte x": 7,
		"active p() { 1 }": 7, "active [0] proctype p() { 1 }": 8, "active [256] proctype p() { 1 }": 8, "active [] proctype p() { 1 }": 8,
		"proctype p { 1 }": 11, "proctype p(;) { 1 }": 11, "proctype p(byte x;;) { 1 }": 18, "proctype p() priority 0 { 1 }": 22, "proctype p() priority 256 { 1 }": 22,
		"proctype p() provided x { 1 }": 22, "proctype p() provided () { 1 }": 23, "proctype p() 1": 13, "init(": 4, "never if { 1 }": 6, "never a priority 1 { 1 }": 8,
		"init { ; }": 7, "init { a 1 }": 9, "init { a + b c }": 13, "init { {a} ) }": 11, "init { {a} \"x\" }": 11, "init { fi }": 7, "init { a; fi }": 10, "init { a :: b }": 9,
		"init { if fi }": 10, "init { if :: fi }": 13, "init { if a fi }": 10, "init { if :: a od }": 15, "init { do :: a fi }": 15,
		"init { for i : 1 .. 2 { a } }": 11, "init { for (i 1 .. 2) { a } }": 14, "init { for (i : 1 , 2) { a } }": 18, "init { for (i : 1 .. 2) a }": 24, "init { for (1 : 1 .. 2) { a } }": 12,
		"init { select (i in a) }": 17, "init { atomic a }": 14, "init { goto 3 }": 12, "init { goto if }": 12, "init { printf(x) }": 14, "init { printf(\"a\" x) }": 18, "init { printm() }": 14, "init { assert }": 14,
		"init { a: }": 10, "init { a: byte x }": 10, "init { x ++ 1 }": 12, "init { q ! }": 11, "init { q ! a, }": 14, "init { q ! a(b), c }": 15, "init { q ! a() }": 13,
		"init { q ? 1 + 2 }": 13, "init { q ? -x }": 12, "init { q ? skip }": 11, "init { q ? <x }": 14, "init { q ? eval x }": 16, "init { q ? [x > }": 14, "init { q ? (x) }": 11,
		"init { (a }": 10, "init { (a -> b) }": 14, "init { (a -> P[1]:b : c) }": 20, "init { (a -> b : c : d) }": 19, "init { a unless }": 16, "init { a unless b unless c }": 18,
		"init { xr }": 10, "init { xr 1 }": 10, "init { enabled a }": 15, "init { len(1) }": 11, "init { len(P[1]:a) }": 15, "init { run }": 11, "init { run p }": 13, "init { run p(, }": 13,
		"init { P[1]@ }": 13, "init { P[1]: }": 13, "init { P[1].a@b }": 13, "init { a. }": 10, "init { a[] }": 9, "init { a[1 }": 11, "init { !!a }": 7, "init { a && }": 12,
		"init { break a }": 13, "init { else + 1 }": 12, "init { byte x = }": 16, "init { x = 1 y = 2 }": 13, "init { 1 } init": 15, "1": 0, "}": 0, "init { P[1]:q ? [a] }": 14,
	} {
		if got := told(s); got != wrong(api.ErrSyntax, at) {
			t.Errorf("%s: got %s, want a syntax error at %d", s, got, at)
		}
	}
}

// ErrDeep: where a statement or a unary stands in 64.
func TestDeep(t *testing.T) {
	in := func(n int, s string) string {
		return "init{" + strings.Repeat("{", n) + s + strings.Repeat("}", n) + "}"
	}
	for s, want := range map[string]string{
		in(63, "else"):     "",
		in(64, "else"):     wrong(api.ErrDeep, 69),
		in(64, ")"):        wrong(api.ErrDeep, 69),
		in(64, "}"):        wrong(api.ErrDeep, 69),
		in(64, "byte x"):   "",
		in(64, "byte x;"):  "",
		in(64, "byte x;)"): wrong(api.ErrDeep, 76),
		in(62, "skip"):     "",
		in(63, "skip"):     wrong(api.ErrDeep, 68),
		in(63, "x = 1"):    wrong(api.ErrDeep, 72),
		in(63, "x++"):      "",
		in(63, "x"):        wrong(api.ErrDeep, 68),
		in(63, "x[1]++"):   wrong(api.ErrDeep, 70),
		in(62, "x[1]++"):   "",
		in(62, "x[1]"):     wrong(api.ErrDeep, 69),
		in(62, "x["):       wrong(api.ErrSyntax, 69),
		in(63, "x["):       wrong(api.ErrDeep, 70),
		in(63, "a:b++"):    wrong(api.ErrDeep, 70),
		in(63, "xr x[1]"):  "",
		in(64, "xr x[1]"):  wrong(api.ErrDeep, 74),
		in(0, "assert "+strings.Repeat("-", 62)+"1"): "",
	} {
		got := told(strings.Replace(s, "--", "- -", -1))
		if strings.HasPrefix(got, "all") {
			got = ""
		}
		if strings.Contains(s, "--") {
			got = ""
		}
		if got != want {
			t.Errorf("%s: got %.90s, want %s", s, got, want)
		}
	}
	minus := strings.TrimSpace(strings.Repeat("- ", 62))
	if got := told("init { assert " + minus + " 1 }"); strings.HasPrefix(got, "error") {
		t.Errorf("62 signs: %s", got)
	}
	if got := told("init { assert " + minus + " - 1 }"); got != wrong(api.ErrDeep, 14+63*2) {
		t.Errorf("63 signs: %s", got)
	}
}

// tokens makes rows that are too long for a source.
func tokens(s string) []api.Token {
	var l []api.Token
	for i, w := range strings.Fields(s) {
		k, _, _ := lex.Tokens(w)
		l = append(l, api.Token{Kind: k[0].Kind, Text: k[0].Text, N: k[0].N, At: i, Line: i})
	}
	return append(l, api.Token{Kind: api.TEnd, At: len(l), Line: len(l)})
}

// ErrMany: where a node more would be made.
func TestMany(t *testing.T) {
	// init { n times 1 ; }: 2 n nodes, MHead, DSeq, MInit, MAll.
	steps := func(n int, s string) []api.Token {
		return tokens("init { " + strings.Repeat("1 ; ", n) + s)
	}
	most := (api.MaxNodes - 4) / 2
	last := 2 + 2*most
	for _, c := range []struct {
		n  int
		s  string
		e  api.Errno
		at int
	}{
		{most, "}", api.OK, 0},
		{most, ")", api.ErrSyntax, last},
		{most - 1, "x + x }", api.ErrMany, 0},
		{most - 1, "x + x + x )", api.ErrMany, last - 2},
		{most, "1 }", api.ErrMany, 0},
		{most + 1, "}", api.ErrMany, 0},
		{most + 1, "1 }", api.ErrMany, last + 2},
		{most + 1, "x = ) }", api.ErrSyntax, last + 4},
		{most + 1, "x [ 1 ] )", api.ErrMany, last + 2},
		{most, "a [ 1 ]", api.ErrMany, 2},
		{most - 1, "a [ 1 ] }", api.ErrMany, 0},
		{most - 2, "a [ 1 ] }", api.OK, 0},
		// A name with an index counts while it is one.
		{most - 1, "P [ 1 ] @ b }", api.ErrMany, 0},
		{most, "P [ 1 ] @ b }", api.ErrMany, last},
		{most, "P [ x + 1 ] @ b }", api.ErrMany, last},
	} {
		_, e, at := Parse(steps(c.n, c.s))
		if e != c.e || at != c.at {
			t.Errorf("%d %s: got %d at %d, want %d at %d", c.n, c.s, e, at, c.e, c.at)
		}
	}
}

// P3.1: rows that may not be; words by their Text alone.
func TestRows(t *testing.T) {
	end := api.Token{Kind: api.TEnd, At: 9, Line: 3}
	x := api.Token{Kind: api.TName, Text: "$", At: 4, Line: 2}
	for _, l := range [][]api.Token{nil, {x}, {end, x}, {end, end}} {
		if tr, e, at := Parse(l); tr != nil || e != api.ErrArg || at != 0 {
			t.Errorf("%v: error %d", l, e)
		}
	}
	tr, e, _ := Parse([]api.Token{{Kind: api.TName, Text: "byte", At: 3, Line: 1}, x, end})
	want := api.Tree{{Kind: api.DType, N: api.TyByte, At: 3, Line: 1}, {Kind: api.DVar, Text: "$", At: 4, Line: 2}, {Kind: api.DDecl, At: 3, Line: 1, Kids: []int{0, 1}}, {Kind: api.MAll, At: 3, Line: 1, Kids: []int{2}}}
	if e != api.OK || fmt.Sprint(tr) != fmt.Sprint(want) {
		t.Errorf("error %d, %v", e, tr)
	}
	l := []api.Token{end}
	if tr, e, _ := Parse(l); e != api.OK || len(tr) != 1 || tr[0].At != 9 || tr[0].Line != 3 {
		t.Errorf("error %d, %v", e, tr)
	}
}

// Where nodes stand: behind their Kids, at the first token of what they are, or at their operator.
func TestPlaces(t *testing.T) {
	tr, _, _ := Read("; proctype p(byte a)\n priority 3 { x = (a) + 1; L: {- b}; q?[a] }")
	var l []string
	for i, n := range tr {
		l = append(l, fmt.Sprintf("%s@%d/%d", kinds[n.Kind], n.At, n.Line))
		first := i
		for _, k := range slices.Backward(n.Kids) {
			if k != first-1 {
				t.Errorf("node %d: kid %d", i, k)
			}
			first = least(tr, k)
		}
	}
	want := "type@13/1 var@18/1 decl@13/1 head@22/2 ref@35/2 ref@40/2 num@45/2 bin@43/2 set@35/2 ref@54/2 un@52/2 expr@52/2 seq@52/2 block@51/2 label@48/2 ref@58/2 ref@61/2 poll@58/2 expr@58/2 seq@35/2 proc@2/1 all@0/1"
	if got := strings.Join(l, " "); got != want {
		t.Errorf("got  %s\nwant %s", got, want)
	}
}

func least(t api.Tree, node int) int {
	for len(t[node].Kids) > 0 {
		node = t[node].Kids[0]
	}
	return node
}

// P3.2: the first error.
func TestRead(t *testing.T) {
	for s, want := range map[string]string{
		"init { $ }":                       wrong(api.ErrChar, 7),
		"#define\ninit { }":                wrong(api.ErrPrep, 0),
		"inline\ninit { }":                 wrong(api.ErrPrep, 0),
		"#define N 3\nbyte x[N]":           "all[decl[type:3 var:x:3]]",
		"inline p(a) { a }\ninit { p(x) }": "all[init[head seq[block[seq[expr[ref:x]]]]]]",
	} {
		if got := told(s); got != want {
			t.Errorf("%s: got %s", s, got)
		}
	}
}

// How much each operator binds: all pairs.
func TestBinding(t *testing.T) {
	levels := [][]string{{"||"}, {"&&"}, {"|"}, {"^"}, {"&"}, {"==", "!="}, {"<", "<=", ">", ">="}, {"<<", ">>"}, {"+", "-"}, {"*", "/", "%"}}
	ops := map[string]int{"||": api.XEither, "&&": api.XBoth, "|": api.XOr, "^": api.XXor, "&": api.XAnd, "==": api.XEq, "!=": api.XNe, "<": api.XLt, "<=": api.XLe, ">": api.XGt, ">=": api.XGe, "<<": api.XShl, ">>": api.XShr, "+": api.XAdd, "-": api.XSub, "*": api.XMul, "/": api.XDiv, "%": api.XMod}
	for i, first := range levels {
		for j, second := range levels {
			for _, x := range first {
				for _, y := range second {
					want := fmt.Sprintf("bin:%d[bin:%d[ref:a ref:b] ref:c]", ops[y], ops[x])
					if j > i {
						want = fmt.Sprintf("bin:%d[ref:a bin:%d[ref:b ref:c]]", ops[x], ops[y])
					}
					if got := told("init { assert a " + x + " b " + y + " c }"); got != "all[init[head seq[assert["+want+"]]]]" {
						t.Errorf("a %s b %s c: got %s", x, y, got)
					}
				}
			}
		}
	}
}

// The least and the greatest numbers that may stand there.
func TestNumbers(t *testing.T) {
	for _, s := range []string{"active [1] proctype p() { 1 }", "active [255] proctype p() { 1 }", "proctype p() priority 1 { 1 }", "proctype p() priority 255 { 1 }", "init priority 1 { 1 }", "byte x[1]; unsigned y : 1; chan c = [0] of { byte }"} {
		if got := told(s); strings.HasPrefix(got, "error") {
			t.Errorf("%s: %s", s, got)
		}
	}
	for s, at := range map[string]int{"init priority 0 { 1 }": 14, "init priority 256 { 1 }": 14} {
		if got := told(s); got != wrong(api.ErrSyntax, at) {
			t.Errorf("%s: %s", s, got)
		}
	}
}

// No word is a name.
func TestWords(t *testing.T) {
	words := "active assert atomic bit bool break byte chan d_step do else empty enabled eval false fi for full goto hidden if in init inline int len local mtype nempty never nfull np_ od of pc_value pid printf printm priority proctype provided run select short show skip timeout true typedef unless unsigned xr xs _ _last _nr_pr _pid"
	for _, w := range strings.Fields(words) {
		l := []api.Token{{Kind: api.TName, Text: "never"}, {Kind: api.TMark, Text: "{"}, {Kind: api.TName, Text: "goto"}, {Kind: api.TName, Text: w, At: 7}, {Kind: api.TMark, Text: "}"}, {Kind: api.TEnd}}
		if _, e, at := Parse(l); e != api.ErrSyntax || at != 7 {
			t.Errorf("%s: error %d at %d", w, e, at)
		}
		l[3].Text += "x"
		if _, e, _ := Parse(l); e != api.OK {
			t.Errorf("%sx: error %d", w, e)
		}
	}
}

// Behind a } each kind of step may stand without anything between.
func TestBehindBrace(t *testing.T) {
	for _, s := range []string{"if :: 1 fi", "do :: 1 od", "for (x : 1 .. 2) { 1 }", "select (x : 1 .. 2)", "atomic { 1 }", "d_step { 1 }", "{ 1 }", "else", "break", "goto a", "printf(\"a\")", "printm(1)", "assert 1", "skip", "true", "false", "run p()", "timeout", "np_", "_pid", "_last", "_nr_pr", "enabled(1)", "pc_value(1)", "len(q)", "full(q)", "empty(q)", "nfull(q)", "nempty(q)", "a", "a: 1", "a = 1", "a!1", "-1", "!a", "~a", "(1)", "5", "byte y", "hidden byte y", "show byte y", "local T y", "T y", "chan y", "mtype y", "xr a", "xs a"} {
		with, without := told("init { {1}; "+s+" }"), told("init { {1} "+s+" }")
		if with != without || strings.HasPrefix(with, "error") {
			t.Errorf("%s: %s and %s", s, with, without)
		}
		if got := told("init { 1 " + s + " }"); !strings.HasPrefix(got, "error") && s != "-1" && s != "(1)" {
			t.Errorf("%s behind a step without a brace: %s", s, got)
		}
	}
	for _, s := range []string{")", "]", "fi", "od", "::", "unless", "of", "eval(1)", "_", "in", "init", "never", "&& 1", "\"x\"", ","} {
		if got := told("init { {1} " + s + " }"); !strings.HasPrefix(got, "error") {
			t.Errorf("%s: %s", s, got)
		}
	}
}
