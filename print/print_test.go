package print

import (
	"fmt"
	"slices"
	"strings"
	"testing"

	"spinneret/api"
	"spinneret/syntax"
)

func read(t *testing.T, s string) api.Tree {
	t.Helper()
	tree, e, at := syntax.Read(s)
	if e != api.OK {
		t.Fatalf("%s: error %d at %d", s, e, at)
	}
	return tree
}

// P4.1: the text, line by line.
func TestText(t *testing.T) {
	for s, want := range map[string]string{
		"":                              "",
		"init{x=1;if::a->b!2::else fi}": "init {|  x = 1;|  if|  ::|    a;|    b ! 2|  ::|    else|  fi|}|",
		"hidden bit a[3],b=2;show bool c local T d":                          "hidden bit a[3], b = 2|show bool c|local T d|",
		"unsigned u:5=3,v:1":                                                 "unsigned u : 5 = 3, v : 1|",
		"chan c[2]=[0]of{byte,T,mtype}":                                      "chan c[2] = [0] of { byte, T, mtype }|",
		"typedef T{short a;hidden int b[2];}":                                "typedef T { short a; hidden int b[2] }|",
		"mtype{a,b} mtype m":                                                 "mtype = { a, b }|mtype m|",
		"active proctype p(byte x,y;pid z)priority 3 provided(x==1){skip}":   "active proctype p(byte x, y; pid z) priority 3 provided (x == 1) {|  1|}|",
		"active[2]proctype p(){x;};proctype q(){x}":                          "active [2] proctype p() {|  x|}|proctype q() {|  x|}|",
		"init priority 2{{a;{b}}}never{1}never n{1}":                         "init priority 2 {|  {|    a;|    {|      b|    }|  }|}|never {|  1|}|never n {|  1|}|",
		"init{for(i:1..n){a};for(i in b){c}select(i:1..2);do::break od}":     "init {|  for (i : 1 .. n) {|    a|  };|  for (i in b) {|    c|  };|  select (i : 1 .. 2);|  do|  ::|    break|  od|}|",
		"init{atomic{a}d_step{b}{c}}":                                        "init {|  atomic {|    a|  };|  d_step {|    b|  };|  {|    c|  }|}|",
		"init{q!1,x;q!!a(b);q?x,_,-3,eval(y+1);q??1(z);q?<x>;q??<1,y>}":      "init {|  q ! 1, x;|  q !! a, b;|  q ? x, _, -3, eval(y + 1);|  q ?? 1, z;|  q ?<x>;|  q ??<1, y>|}|",
		"init{x++;x.y[1]--;goto a;a:b:skip;c unless{d}}":                     "init {|  x++;|  x.y[1]--;|  goto a;|  a: b: 1;|  c unless {|    d|  }|}|",
		"init{printf(\"%d\\n\",x,1);printm(x);assert(x);xr a,b;xs c;byte z}": "init {|  printf(\"%d\\n\", x, 1);|  printm(x);|  assert x;|  xr a, b;|  xs c;|  byte z|}|",
	} {
		tree := read(t, s)
		got, e := Text(tree)
		if e != api.OK || got != strings.ReplaceAll(want, "|", "\n") {
			t.Errorf("%s: error %d, got\n%s", s, e, got)
		}
		// P4.3
		again := read(t, got)
		if !slices.EqualFunc(tree, again, alike) {
			t.Errorf("%s: another tree", s)
		}
		if twice, _ := Text(again); twice != got {
			t.Errorf("%s: another text: %s", s, twice)
		}
	}
}

// P4.2: expressions; no bracket that isn't needed.
func TestExpr(t *testing.T) {
	for s, want := range map[string]string{
		"a-(b-c)*-(-d)":                   "a - (b - c) * - -d",
		"((a-b))-c":                       "a - b - c",
		"a-(b-c)":                         "a - (b - c)",
		"(a*b)+(c||d)":                    "a * b + (c || d)",
		"(a==b)!=(c<d)":                   "a == b != c < d",
		"a|b^c&d":                         "a | b ^ c & d",
		"((a|b)^c)&d":                     "((a | b) ^ c) & d",
		"-(a+b)":                          "-(a + b)",
		"! !a":                            "! !a",
		"!-~ ~a":                          "!-~ ~a",
		"- (-1)":                          "- -1",
		"(a->b:c)":                        "(a -> b : c)",
		"-(a->b:c)+1":                     "-(a -> b : c) + 1",
		"true+false+skip":                 "1 + 0 + 1",
		"P[1]:x[2].y":                     "P[1]:x[2].y",
		"(P[1]:a->-(P[b]:c):P[1]:d)":      "(P[1]:a -> -(P[b]:c) : P[1]:d)",
		"(a->x[P[b]:c]+(1*(P[1]:d+1)):e)": "(a -> x[P[b]:c] + 1 * (P[1]:d + 1) : e)",
		"(a->(b->c:P[1]:d):e)":            "(a -> (b -> c : P[1]:d) : e)",
		"(a->run p(P[1]:d):e)":            "(a -> run p(P[1]:d) : e)",
		"(a->q?[eval(P[1]:d)]:e)":         "(a -> q?[eval(P[1]:d)] : e)",
		"(a->enabled(P[1]:d):e)":          "(a -> enabled(P[1]:d) : e)",
		"(a->x[1]+(P[1]:b):c)":            "(a -> x[1] + (P[1]:b) : c)",
		"P[a+1]@l":                        "P[a + 1]@l",
		"run p()+run q(1,a)":              "run p() + run q(1, a)",
		"len(q)+full(q)+empty(q)+nfull(q)+nempty(q[1])": "len(q) + full(q) + empty(q) + nfull(q) + nempty(q[1])",
		"enabled(a)+pc_value(b)":                        "enabled(a) + pc_value(b)",
		"timeout+np_+_pid+_last+_nr_pr":                 "timeout + np_ + _pid + _last + _nr_pr",
		"q?[a,_,-1]&&q??[1]":                            "q?[a, _, -1] && q??[1]",
		"a<<b>>c<=d>=e>f%g/h":                           "a << b >> c <= d >= e > f % g / h",
	} {
		tree := read(t, "init{assert "+s+"}")
		root := len(tree) - 5
		got, e := Expr(tree, root)
		if e != api.OK || got != want {
			t.Errorf("%s: error %d, got %s", s, e, got)
		}
		again := read(t, "init{assert "+got+"}")
		if !slices.EqualFunc(tree, again, alike) {
			t.Errorf("%s: another tree", s)
		}
	}
	tree := read(t, "init { (a -> (P[1]:b) : c) }")
	for node, n := range tree {
		if n.Kind == api.ERemote {
			if got, _ := Expr(tree, node); got != "P[1]:b" {
				t.Errorf("got %s", got)
			}
		}
		if _, e := Expr(tree, node); (e == api.OK) != (n.Kind <= 12) || e != api.OK && e != api.ErrArg {
			t.Errorf("node %d: error %d", node, e)
		}
	}
	for _, node := range []int{-1, len(tree)} {
		if _, e := Expr(tree, node); e != api.ErrArg {
			t.Errorf("node %d: error %d", node, e)
		}
	}
	if _, e := Expr(tree[1:], 0); e != api.ErrTree {
		t.Errorf("error %d", e)
	}
}

const source = "mtype = { m } typedef T { byte a } chan c = [1] of { byte } unsigned u : 3; active proctype p(byte x) priority 2 provided (x) { L: if :: x = (a -> (P[1]:b) : -3) :: else fi; q?x,_,eval(y); for (i : 1 .. 2) { x++ }; printf(\"a\", q?[-1], P[1]@L, len(q), run p(), enabled(1), np_); goto L unless break } init { for (a in b) { printm(x) } } never { 1 }"

// P4.1: trees that no tokens make: one field is otherwise than it was.
func TestNoTrees(t *testing.T) {
	whole := read(t, source)
	if _, e := Text(whole); e != api.OK {
		t.Fatalf("error %d", e)
	}
	bad := func(what string, tree api.Tree) {
		t.Helper()
		text, e := Text(tree)
		if e == api.OK {
			again, e, _ := syntax.Read(text)
			if e != api.OK || !slices.EqualFunc(tree, again, alike) {
				t.Errorf("%s: printed as another tree", what)
			}
		} else if e != api.ErrTree || text != "" {
			t.Errorf("%s: error %d, text %q", what, e, text)
		}
	}
	for i := range whole {
		for _, change := range []func(n *api.Node){
			func(n *api.Node) { n.Text += "$" }, func(n *api.Node) { n.Text = "" }, func(n *api.Node) { n.Text = "if" }, func(n *api.Node) { n.Text = strings.Repeat("a", 33) },
			func(n *api.Node) { n.N = -1 }, func(n *api.Node) { n.N++ }, func(n *api.Node) { n.N = 1 << 31 }, func(n *api.Node) { n.N = -1 << 63 }, func(n *api.Node) { n.N = 0 },
			func(n *api.Node) { n.Kids = nil }, func(n *api.Node) { n.Kids = append([]int{0}, n.Kids...) }, func(n *api.Node) { n.Kids = append(slices.Clone(n.Kids), i) },
			func(n *api.Node) { n.Kids = []int{-1} }, func(n *api.Node) { n.Kids = []int{1 << 40} }, func(n *api.Node) { slices.Reverse(n.Kids) },
		} {
			tree := slices.Clone(whole)
			tree[i].Kids = slices.Clone(tree[i].Kids)
			change(&tree[i])
			bad(fmt.Sprint("node ", i), tree)
		}
		for kind := range 70 {
			tree := slices.Clone(whole)
			tree[i].Kind = kind
			bad(fmt.Sprint("node ", i, " kind ", kind), tree)
		}
	}
	for _, tree := range []api.Tree{nil, {}, {{Kind: api.ENum}}, {{Kind: api.MAll}, {Kind: api.MAll}}, {{Kind: api.MAll, N: 1}}, {{Kind: api.MAll, Text: "a"}}, make(api.Tree, api.MaxNodes+1)} {
		if _, e := Text(tree); e != api.ErrTree {
			t.Errorf("%d nodes: error %d", len(tree), e)
		}
	}
	if text, e := Text(api.Tree{{Kind: api.MAll, At: 5, Line: -1}}); e != api.OK || text != "" {
		t.Errorf("error %d, %q", e, text)
	}
}

// P4.1: numbers below 0 stand in receives alone; texts are such as chapter 1 makes.
func TestEdges(t *testing.T) {
	change := func(s string, kind int, f func(n *api.Node)) api.Errno {
		tree := read(t, s)
		for i := range tree {
			if tree[i].Kind == kind {
				f(&tree[i])
			}
		}
		_, e := Text(tree)
		return e
	}
	text := func(s string) func(n *api.Node) { return func(n *api.Node) { n.Text = s } }
	number := func(v int64) func(n *api.Node) { return func(n *api.Node) { n.N = v } }
	for i, c := range []struct {
		e, want api.Errno
	}{
		{change("init { 1 }", api.ENum, number(-1)), api.ErrTree},
		{change("init { q?1 }", api.ENum, number(-1)), api.OK},
		{change("init { q?1 }", api.ENum, number(-1<<31+1)), api.OK},
		{change("init { q?1 }", api.ENum, number(-1<<31)), api.ErrTree},
		{change("init { 1 }", api.ENum, number(1<<31-1)), api.OK},
		{change("init { 1 }", api.ENum, number(1<<31)), api.ErrTree},
		{change("init { printf(\"\") }", api.PPrint, text("a\"")), api.ErrTree},
		{change("init { printf(\"\") }", api.PPrint, text("a\\\"")), api.OK},
		{change("init { printf(\"\") }", api.PPrint, text("a\\")), api.ErrTree},
		{change("init { printf(\"\") }", api.PPrint, text("\n")), api.ErrTree},
		{change("init { printf(\"\") }", api.PPrint, text(strings.Repeat("a", 200))), api.OK},
		{change("init { printf(\"\") }", api.PPrint, text(strings.Repeat("a", 201))), api.ErrTree},
		{change("init { goto a }", api.PGoto, text(strings.Repeat("a", 32))), api.OK},
		{change("init { goto a }", api.PGoto, text(strings.Repeat("a", 33))), api.ErrTree},
		{change("init { goto a }", api.PGoto, text("a b")), api.ErrTree},
		{change("init { goto a }", api.PGoto, text("a//")), api.ErrTree},
		{change("init { goto a }", api.PGoto, text("_pid")), api.ErrTree},
	} {
		if c.e != c.want {
			t.Errorf("case %d: error %d, want %d", i, c.e, c.want)
		}
	}
}

// P4.1: trees of many nodes, and of great texts.
func TestSize(t *testing.T) {
	tree := api.Tree{{Kind: api.MHead}}
	var seq []int
	for range 8000 {
		seq = append(seq, len(tree)+1)
		tree = append(tree, api.Node{Kind: api.ERef, Text: "abcdefgh"}, api.Node{Kind: api.PExpr, Kids: []int{len(tree)}})
	}
	tree = append(tree, api.Node{Kind: api.DSeq, Kids: seq})
	tree = append(tree, api.Node{Kind: api.MInit, Kids: []int{0, len(tree) - 1}})
	tree = append(tree, api.Node{Kind: api.MAll, Kids: []int{len(tree) - 1}})
	if _, e := Text(tree); e != api.ErrSize {
		t.Errorf("error %d", e)
	}
	for i := range tree {
		if tree[i].Kind == api.ERef {
			tree[i].Text = "a"
		}
	}
	if text, e := Text(tree); e != api.OK || len(text) < 40000 {
		t.Errorf("error %d", e)
	}
}

// Brackets stand just where the tree would be another one without them: all pairs of operators.
func TestBrackets(t *testing.T) {
	ops := []string{"||", "&&", "|", "^", "&", "==", "!=", "<", "<=", ">", ">=", "<<", ">>", "+", "-", "*", "/", "%"}
	for _, x := range ops {
		for _, y := range ops {
			for _, s := range []string{"(a " + x + " b) " + y + " c", "a " + x + " (b " + y + " c)"} {
				tree := read(t, "init { assert "+s+" }")
				bare := strings.NewReplacer("(", "", ")", "").Replace(s)
				want := s
				if slices.EqualFunc(tree, read(t, "init { assert "+bare+" }"), alike) {
					want = bare
				}
				if got, e := Expr(tree, len(tree)-5); e != api.OK || got != want {
					t.Errorf("%s: error %d, got %s, want %s", s, e, got, want)
				}
			}
		}
	}
}

// As many bytes and nodes as there may be, and one more.
func TestMost(t *testing.T) {
	steps := func(names ...string) api.Tree {
		tree := api.Tree{{Kind: api.MHead}}
		var seq []int
		for _, name := range names {
			tree = append(tree, api.Node{Kind: api.ERef, Text: name}, api.Node{Kind: api.PExpr, Kids: []int{len(tree)}})
			seq = append(seq, len(tree)-1)
		}
		tree = append(tree, api.Node{Kind: api.DSeq, Kids: seq})
		tree = append(tree, api.Node{Kind: api.MInit, Kids: []int{0, len(tree) - 1}})
		return append(tree, api.Node{Kind: api.MAll, Kids: []int{len(tree) - 1}})
	}
	long := slices.Repeat([]string{strings.Repeat("n", 32)}, 1820)
	if text, e := Text(steps(append(long, "abc")...)); e != api.OK || len(text) != api.MaxSource {
		t.Errorf("error %d, %d bytes", e, len(text))
	}
	if text, e := Text(steps(append(long, "abcd")...)); e != api.ErrSize || text != "" {
		t.Errorf("error %d, %d bytes", e, len(text))
	}
	most := slices.Repeat([]string{"a"}, (api.MaxNodes-4)/2)
	if tree := steps(most...); len(tree) != api.MaxNodes {
		t.Errorf("%d nodes", len(tree))
	} else if _, e := Text(tree); e != api.OK {
		t.Errorf("error %d", e)
	}
	if _, e := Text(steps(append(most, "a")...)); e != api.ErrTree {
		t.Errorf("error %d", e)
	}
	tree := read(t, "never { x; run p() }")
	if got, e := Expr(tree, 0); got != "x" || e != api.OK {
		t.Errorf("error %d, %s", e, got)
	}
	if got, e := Expr(tree, 2); got != "run p()" || e != api.OK {
		t.Errorf("error %d, %s", e, got)
	}
}
