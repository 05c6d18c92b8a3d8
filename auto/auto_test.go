package auto

import (
	"fmt"
	"slices"
	"strings"
	"testing"

	"spinneret/api"
	"spinneret/names"
	"spinneret/syntax"
	"spinneret/types"
)

func read(t *testing.T, s string) (api.Tree, api.Names, api.Layout) {
	t.Helper()
	tree, e, at := syntax.Read(s)
	if e != api.OK {
		t.Fatalf("%s: error %d at %d", s, e, at)
	}
	n, e, at := names.Find(tree)
	if e != api.OK {
		t.Fatalf("%s: name error %d at %d", s, e, tree[at].At)
	}
	y, e, at := types.Lay(tree, n)
	if e != api.OK {
		t.Fatalf("%s: layout error %d at %d", s, e, tree[at].At)
	}
	return tree, n, y
}

func made(t *testing.T, s string) api.Model {
	t.Helper()
	tree, n, y := read(t, s)
	m, e, at := Make(tree, n, y)
	if e != api.OK {
		t.Fatalf("%s: error %d at %d", s, e, tree[at].At)
	}
	return m
}

// expr is an expression as it is reckoned: variables as g, l or r and their slot.
func expr(m api.Model, x int) string {
	if x < 0 {
		return ""
	}
	e := m.Exprs[x]
	s := fmt.Sprint(e.Op)
	switch e.Op {
	case api.XNum:
		return fmt.Sprint(e.N)
	case api.XVar:
		s = fmt.Sprint([]string{"g", "l", "r"}[e.V.Scope], e.V.Slot)
		if e.V.Scope == api.Remote {
			s += fmt.Sprint("<", expr(m, e.V.Who), ":", e.V.Type, ">")
		} else if e.V.Who != -1 || e.V.Type != -1 {
			s += "!"
		}
		for _, d := range e.V.Dims {
			s += fmt.Sprint("[", expr(m, d.I), " ", d.Len, " ", d.Stride, "]")
		}
		return s
	}
	if e.N != 0 {
		s += fmt.Sprint("#", e.N)
	}
	var l []string
	for _, p := range []int{e.A, e.B, e.C} {
		if p >= 0 {
			l = append(l, expr(m, p))
		}
	}
	if e.Op == api.XAt {
		return fmt.Sprint(s, l, e.Args)
	}
	for _, p := range e.Args {
		l = append(l, expr(m, p))
	}
	if len(e.Match) > 0 {
		l = append(l, fmt.Sprint(e.Match))
	}
	return s + "(" + strings.Join(l, " ") + ")"
}

func ways(m api.Model, l []api.Trans) string {
	var out []string
	for _, w := range l {
		s := []string{"", "expr", "set", "assert", "print", "send", "recv", "else", "skip", "chan"}[w.S.Kind]
		for _, x := range []int{w.S.A, w.S.B} {
			if x >= 0 {
				s += " " + expr(m, x)
			}
		}
		for _, x := range w.S.Args {
			s += " " + expr(m, x)
		}
		if len(w.S.Match) > 0 {
			s += fmt.Sprint(" ", w.S.Match)
		}
		if w.S.N != 0 {
			s += fmt.Sprint(" #", w.S.N)
		}
		if w.S.Text != "" {
			s += fmt.Sprintf(" %q", w.S.Text)
		}
		out = append(out, fmt.Sprint(s, ">", w.To))
	}
	return strings.Join(out, ", ")
}

// proc are a proctype's places: marks, ways, escapes; start and final.
func proc(m api.Model, p api.Proc) string {
	var out []string
	for _, l := range p.Locs {
		s := ""
		for i, mark := range []bool{l.Atomic, l.Dstep, l.End, l.Accept, l.Progress} {
			if mark {
				s += "ADEXP"[i : i+1]
			}
		}
		s += "{" + ways(m, l.Out) + "}"
		for _, esc := range l.Esc {
			s += "/" + ways(m, esc)
		}
		out = append(out, s)
	}
	return strings.Join(out, " ") + fmt.Sprint(" ", p.Start, p.Final)
}

// P9.2: places and ways.
func TestPlaces(t *testing.T) {
	for s, want := range map[string]string{
		"do :: x -> break :: else -> x = 1 od; assert x":              "{expr g0>1, else>2} {assert g0>3} {set g0 1>0} {} 0 3",
		"{ x = 1; y = 1 } unless z":                                   "{set g0 1>1}/expr g2>2 {set g1 1>2}/expr g2>2 {} 0 2",
		"{ x; y } unless { z; 0 }":                                    "{expr g0>1}/expr g2>2 {expr g1>3}/expr g2>2 {expr 0>3} {} 0 3",
		"byte q; xr x; byte r":                                        "{skip>1} {} 0 1",
		"skip; 1; 0; true":                                            "{skip>1} {skip>2} {expr 0>3} {skip>4} {} 0 4",
		"x++; a[x]--":                                                 "{set g0 9(g0 1)>1} {set g3[g0 3 1] 10(g3[g0 3 1] 1)>2} {} 0 2",
		"goto L; x; L: y":                                             "{expr g1>1} {} 0 1",
		"x; goto L; y; L: z":                                          "{expr g0>1} {expr g2>2} {} 0 2",
		"L: goto M; M: goto L":                                        "{skip>1} {skip>0} {} 0 2",
		"L: goto L":                                                   "{skip>0} {} 0 1",
		"M: { goto L }; L: x":                                         "{skip>1} {expr g0>2} {} 0 2",
		"if :: goto L :: x; goto L fi; y; L: z":                       "{skip>1, expr g0>1} {expr g2>2} {} 0 2",
		"goto L; M: x; L: y; goto M":                                  "{expr g1>1} {expr g0>0} {} 0 2",
		"if :: x :: y; z fi; 0":                                       "{expr g0>1, expr g1>2} {expr 0>3} {expr g2>1} {} 0 3",
		"x; do :: y od":                                               "{expr g0>1} {expr g1>1} {} 0 2",
		"do :: do :: x :: break od; y od":                             "{expr g0>1, skip>2} {expr g0>1, skip>2} {expr g1>0} {} 0 3",
		"do :: x; do :: break od od":                                  "{expr g0>1} {skip>0} {} 0 2",
		"if :: do :: x od fi":                                         "{expr g0>1} {expr g0>1} {} 0 2",
		"L: do :: x; goto L od":                                       "{expr g0>0} {} 0 1",
		"for (x : y .. z) { a[0]; a[1] }":                             "{set g0 g1>1} {expr 14(g0 g2)>2, else>3} {expr g3[0 3 1]>4} {} {expr g3[1 3 1]>5} {set g0 9(g0 1)>1} 0 3",
		"for (x in a) { if :: y; break :: z fi }":                     "{set g0 0>1} {expr 14(g0 2)>2, else>3} {expr g1>3, expr g2>4} {} {set g0 9(g0 1)>1} 0 3",
		"select (x : 1 .. y); z":                                      "{set g0 1>1} {expr 13(g0 g1)>2, skip>3} {set g0 9(g0 1)>1} {expr g2>4} {} 0 4",
		"atomic { x; y; z }; 0":                                       "{expr g0>1} A{expr g1>2} A{expr g2>3} {expr 0>4} {} 0 4",
		"d_step { x; atomic { y; z } }":                               "{expr g0>1} D{expr g1>2} D{expr g2>3} {} 0 3",
		"atomic { do :: x; y od }":                                    "{expr g0>1} A{expr g1>2} A{expr g0>1} {} 0 3",
		"atomic { x; d_step { y; z }; z }":                            "{expr g0>1} A{expr g1>2} D{expr g2>3} A{expr g2>4} {} 0 4",
		"endless: x; accept_me: y; progress: z; pro: 0; acceptend: 0": "E{expr g0>1} X{expr g1>2} P{expr g2>3} {expr 0>4} X{expr 0>5} {} 0 5",
		"x; end: accept: do :: y od":                                  "{expr g0>1} EX{expr g1>1} {} 0 2",
		"x; skip unless L: do :: y od":                                "{expr g0>1} {skip>2}/expr g1>3 {} {expr g1>3} {expr g1>3} 0 2",
		"{ x unless y } unless z":                                     "{expr g0>1}/expr g2>1/expr g1>1 {} 0 1",
		"{ x; { y; 0 } unless z } unless 2":                           "{expr g0>1}/skip>2 {expr g1>3}/skip>2/expr g2>2 {} {expr 0>2}/skip>2/expr g2>2 0 2",
		"{ do :: x :: y; break od } unless z":                         "{expr g0>0, expr g1>1}/expr g2>1 {} 0 1",
		"{ goto L; L: x } unless y":                                   "{expr g0>1}/expr g1>1 {} 0 1",
		"x; if :: goto L fi; do :: y od; L: z":                        "{expr g0>1} {skip>2} {expr g2>3} {} 0 3",
		"goto L; { L: x; M: y }; z":                                   "{expr g0>1} {expr g1>2} {expr g2>3} {} 0 3",
		"goto L; M: N: x; L: y":                                       "{expr g1>1} {} {expr g0>0} 0 1",
		"do :: x -> do :: y -> break :: z -> goto out od od; out: 0":  "{expr g0>1} {expr g1>0, expr g2>2} {expr 0>3} {} 0 3",
		"chan c[2] = [1] of { byte }, d, e = [0] of { bit, bit }; x":  "{chan l0 #1>1} {chan l1 #1>2} {chan l3 #2>3} {expr g0>4} {} 0 4",
		"if :: { byte v; chan c = [0] of { byte }; x } fi":            "{chan l1 #1>1} {expr g0>2} {} 0 2",
		"q!1,x; q!!y(z)":                                              "{send g6 1 g0>1} {send g6 g1 g2 #1>2} {} 0 2",
		"q?x,_,k,-3,eval(y+1); q??1; q?<x>; q??<x>":                   "{recv g6 g0 0 1 -3 9(g1 1) [0 -1 1 1 1]>1} {recv g6 1 [1] #1>2} {recv g6 g0 [0] #2>3} {recv g6 g0 [0] #3>4} {} 0 4",
		`printf("a%d", x); printm(k)`:                                 `{print g0 "a%d">1} {print 1 "%e">2} {} 0 2`,
		"(x -> -y : !z); q?[x,_] && q??[1]; len(q) + _pid":            "{expr 24(g0 3(g1) 4(g2))>1} {expr 22(30(g6 g0 0 [0 -1]) 30#1(g6 1 [1]))>2} {expr 9(25(g6) 31())>3} {} 0 3",
		"p[x]:l == 1; p[y]:v[z]; p[0]@M; enabled(x); timeout":         "{expr 17(r1<g0:0> 1)>1} {expr r2<g1:0>[g2 2 1]>2} {expr 38[0] [1]>3} {expr 36(g0)>4} {expr 35()>5} {} 0 5",
		"x = run p(3); run p(x)":                                      "{set g0 39(3)>1} {expr 39(g0)>2} {} 0 2",
		"L: p[0]@M; init_: 1; x = p[0]@N":                             "{expr 38[0] [1]>1} {skip>2} {set g0 38[0] [2]>3} {} 0 3",
	} {
		m := made(t, "mtype = { k } byte x, y, z, a[3]; chan q = [1] of { byte }; proctype p(byte w) { byte l, v[2]; x; M: y; N: z } init { "+s+" }")
		if got := proc(m, m.Procs[1]); got != want {
			t.Errorf("%s:\ngot  %s\nwant %s", s, got, want)
		}
	}
}

// P9.2: the rest of the model.
func TestModel(t *testing.T) {
	m := made(t, "chan c[2] = [3] of { byte, short }, d; byte x = 7; proctype p(byte a, b; chan e) priority 5 provided (x > 1) { int v = -1; skip }\nactive [3] proctype q() { chan f = [0] of { bit }; 1 } chan g = [1] of { mtype }; init priority 9 { 1 } never { 1 }")
	got := fmt.Sprint(m.Globals, m.Init, m.Shapes, m.Chans, m.Claim)
	want := "[{8 false} {8 false} {8 false} {8 false} {8 false}] [1 2 0 7 3] [{3 [{8 false} {16 true}]} {0 [{1 false}]} {1 [{8 false}]}] [0 0 2] 3"
	if got != want {
		t.Errorf("got %s, want %s", got, want)
	}
	var l []string
	for _, p := range m.Procs {
		l = append(l, fmt.Sprint(p.Name, p.Params, p.Frame, p.Init, p.Active, p.Prio, expr(m, p.Provided)))
	}
	want = "p3 [{8 false} {8 false} {8 false} {32 true}] [0 0 0 -1] 0 515(g3 1)|q0 [{8 false}] [0] 3 1|init0 [] [] 1 9|never0 [] [] 0 1"
	if got := strings.Join(l, "|"); got != want {
		t.Errorf("got  %s\nwant %s", got, want)
	}
	if m.Procs[1].Provided != -1 {
		t.Error("provided")
	}
}

// P9.2: in which order expressions stand, and the lines.
func TestOrder(t *testing.T) {
	m := made(t, "byte x, a[3]; proctype p(byte w) provided (x) { 1 } init { a[x + 1] = (x -> 2 : 3);\n{ assert p[5]:w\n} unless run p(6) }")
	var l []string
	for i := range m.Exprs {
		l = append(l, expr(m, i))
	}
	want := "g0|g0|1|9(g0 1)|g1[9(g0 1) 3 1]|g0|2|3|24(g0 2 3)|5|r0<5:0>|6|39(6)"
	if got := strings.Join(l, "|"); got != want {
		t.Errorf("got  %s\nwant %s", got, want)
	}
	m = made(t, "byte x; init {\nx;\nif :: goto L\n:: x;\ngoto M fi;\nL: {\nbyte y };\nfor\n(x : 1 .. 2) {\n1 }; M:\nselect (x :\n1 .. 2); chan\nc = [0] of { byte }; do :: break od }")
	var lines []int
	for _, p := range m.Procs[0].Locs {
		for _, w := range p.Out {
			lines = append(lines, w.Line)
		}
	}
	if got := fmt.Sprint(lines); got != "[2 3 4 7 11 8 11 11 8 8 11 12 10 13 8]" {
		t.Errorf("lines %s", got)
	}
}

// P9.2: the rules' errors. P9.3: too many places, ways and expressions.
func TestErrors(t *testing.T) {
	body := func(n int, s string) string { return strings.TrimSuffix(strings.Repeat(s+";", n), ";") }
	for i, c := range []struct {
		s  string
		e  api.Errno
		at int
	}{
		{"init { break }", api.ErrRule, 7},
		{"init { " + body(255, "x") + " } byte x", api.OK, 0},
		{"byte x; init { " + body(256, "x") + " }", api.ErrStatic, 8},
		{"byte x; init { x } never { " + body(256, "x") + " }", api.ErrStatic, 19},
		{"byte x; init { goto L; " + body(300, "x") + "; L: x }", api.OK, 0},
		{"byte x; init { do " + strings.Repeat(":: x ", 1024) + " od }", api.OK, 0},
		{"byte x; init { do " + strings.Repeat(":: x ", 1025) + " od }", api.ErrStatic, 8},
		{"byte x; init { { " + body(99, "x") + " } unless { if " + strings.Repeat(":: x ", 10) + "fi } }", api.ErrStatic, 8},
		{"byte x; init { { " + body(90, "x") + " } unless { if " + strings.Repeat(":: x ", 10) + "fi } }", api.OK, 0},
		{"byte x; init { if " + strings.Repeat(":: x + x + x + x + x + x ", 372) + ":: x + x :: x fi }", api.OK, 0},
		{"byte x; init { if " + strings.Repeat(":: x + x + x + x + x + x ", 372) + ":: x + x :: x + x fi }", api.ErrStatic, 8},
		{"byte x; init { if " + strings.Repeat(":: x + x + x + x + x + x ", 372) + ":: x + x fi } active proctype p() { x + x } ", api.ErrStatic, 0},
	} {
		tree, n, y := read(t, c.s)
		m, e, at := Make(tree, n, y)
		if e != c.e || c.at != 0 && tree[at].At != c.at {
			t.Errorf("case %d: error %d at %d", i, e, tree[at].At)
		}
		if e != api.OK && (m.Procs != nil || m.Exprs != nil || m.Claim != 0) {
			t.Errorf("case %d: a model beside an error", i)
		}
	}
	tree, n, _ := read(t, "init { 1 }")
	if _, e, at := Make(tree, n, api.Layout{}); e != api.ErrTree || at != 0 {
		t.Errorf("error %d", e)
	}
}

// P9.1, P9.4.
func TestWalk(t *testing.T) {
	to := func(l ...int) []api.Trans {
		var out []api.Trans
		for _, x := range l {
			out = append(out, api.Trans{To: x, S: api.Stmt{Args: []int{x}, Match: []int{x}}, Line: x})
		}
		return out
	}
	p := api.Proc{Name: "n", Params: 1, Frame: []api.Type{{Bits: 1}}, Init: []int64{1}, Start: 3, Final: 2, Active: 2, Prio: 3, Provided: 4, Locs: []api.Loc{
		{Out: to(1)}, {Out: to(0), End: true}, {Out: to(4)}, {Out: to(5, 3), Esc: [][]api.Trans{to(6), to(5, 7)}}, {}, {}, {Atomic: true}, {Out: to(6)}}}
	got, numbers, e := Walk(p, []int{7, 1})
	if e != api.OK || fmt.Sprint(numbers) != "[5 4 6 0 -1 1 2 3]" {
		t.Fatalf("error %d, %v", e, numbers)
	}
	var l []string
	for _, x := range got.Locs {
		s := ""
		for _, w := range x.Out {
			s += fmt.Sprint(w.To, " ")
		}
		for _, esc := range x.Esc {
			s += "/"
			for _, w := range esc {
				s += fmt.Sprint(w.To, " ")
			}
		}
		l = append(l, s)
	}
	if s := strings.Join(l, "|"); s != "1 0 /2 /1 3 |||2 |5 |4 |-1 " {
		t.Errorf("got %s", s)
	}
	if got.Start != 0 || got.Final != 6 || !got.Locs[2].Atomic || !got.Locs[4].End || got.Name != "n" || got.Provided != 4 || got.Locs[0].Out[0].Line != 5 {
		t.Errorf("got %v", got)
	}
	got.Frame[0].Bits, got.Init[0], got.Locs[0].Out[0].S.Args[0], got.Locs[0].Out[0].S.Match[0] = 9, 9, 9, 9
	if p.Frame[0].Bits != 1 || p.Init[0] != 1 || p.Locs[3].Out[0].S.Args[0] != 5 || p.Locs[3].Out[0].S.Match[0] != 5 || p.Locs[3].Out[0].To != 5 {
		t.Error("memory is shared")
	}
	ring := api.Proc{Start: 1, Final: 0, Locs: []api.Loc{{}, {Out: to(2, 0)}, {Out: to(1)}}}
	once, n1, _ := Walk(ring, []int{2, 0})
	twice, n2, _ := Walk(once, []int{n1[2], n1[0]})
	if fmt.Sprint(once) != fmt.Sprint(twice) || fmt.Sprint(n2) != "[0 1 2]" {
		t.Errorf("%v, %v, %v", once, twice, n2)
	}
	for i, change := range []func(p *api.Proc){
		func(p *api.Proc) { p.Start = -1 }, func(p *api.Proc) { p.Start = 8 }, func(p *api.Proc) { p.Final = 8 }, func(p *api.Proc) { p.Locs = nil },
		func(p *api.Proc) { p.Locs = slices.Clone(p.Locs); p.Locs[4].Out = to(8) }, func(p *api.Proc) { p.Locs = slices.Clone(p.Locs); p.Locs[4].Esc = [][]api.Trans{nil, to(-1)} },
	} {
		other := p
		change(&other)
		if q, n, e := Walk(other, nil); e != api.ErrArg || n != nil || q.Locs != nil || q.Name != "" {
			t.Errorf("%d: error %d", i, e)
		}
	}
	if _, _, e := Walk(p, []int{8}); e != api.ErrArg {
		t.Errorf("error %d", e)
	}
}

// The numbers of proctypes; fields that a kind doesn't name; channels that there are at first are global ones.
func TestNumbers(t *testing.T) {
	m := made(t, "init { chan c = [1] of { bit }; run q(1); run r(); q[0]@L; r[0]:v == 1; x = 1; skip } proctype q(byte a) { L: a } byte x; proctype r() { byte v; v }")
	if m.Claim != -1 || len(m.Chans) != 0 || len(m.Shapes) != 1 {
		t.Errorf("claim %d, channels %v", m.Claim, m.Chans)
	}
	var l []string
	for _, loc := range m.Procs[0].Locs {
		for _, w := range loc.Out {
			l = append(l, fmt.Sprint(w.S, expr(m, w.S.A)))
		}
	}
	want := "{9 0 -1 0 [] [] }l0|{1 2 -1 0 [] [] }39#1(1)|{1 3 -1 0 [] [] }39#2()|{1 5 -1 0 [] [] }38#1[0] [0]|{1 9 -1 0 [] [] }17(r0<0:2> 1)|{2 10 11 0 [] [] }g0|{8 -1 -1 0 [] [] }"
	if got := strings.Join(l, "|"); got != want {
		t.Errorf("got  %s\nwant %s", got, want)
	}
	if got, want := fmt.Sprint(m.Exprs[1], m.Exprs[2], m.Exprs[9], m.Exprs[10]), "{1 1 -1 -1 -1 {0 0 0 0 []} [] []} {39 1 -1 -1 -1 {0 0 0 0 []} [1] []} {17 0 7 8 -1 {0 0 0 0 []} [] []} {2 0 -1 -1 -1 {0 0 -1 -1 []} [] []}"; got != want {
		t.Errorf("got  %s\nwant %s", got, want)
	}
}
