package names

import (
	"fmt"
	"strings"
	"testing"

	"spinneret/api"
	"spinneret/syntax"
)

func read(t *testing.T, s string) api.Tree {
	t.Helper()
	tree, e, at := syntax.Read(s)
	if e != api.OK {
		t.Fatalf("%s: error %d at %d", s, e, at)
	}
	return tree
}

// told are the symbols (kind, name, owner, number), and then what each node uses: its place in the source and the symbol; or the error.
func told(t *testing.T, s string) string {
	tree := read(t, s)
	n, e, at := Find(tree)
	if e != api.OK {
		if n.Syms != nil || n.Of != nil {
			t.Errorf("%s: names beside an error", s)
		}
		return fmt.Sprintf("error %d at %d", e, tree[at].At)
	}
	if at != 0 || len(n.Of) != len(tree) {
		t.Errorf("%s: place %d, %d nodes", s, at, len(n.Of))
	}
	var b strings.Builder
	for i, y := range n.Syms {
		fmt.Fprintf(&b, "%d:%s:%d:%d ", y.Kind, y.Name, y.Owner, y.N)
		if n.Of[y.Node] != i {
			t.Errorf("%s: symbol %d isn't what its node is", s, i)
		}
	}
	b.WriteString("|")
	for i, y := range n.Of {
		if y >= 0 && n.Syms[y].Node != i {
			fmt.Fprintf(&b, " %d=%d", tree[i].At, y)
		}
	}
	return b.String()
}

// P6.1, P6.2.
func TestFind(t *testing.T) {
	for s, want := range map[string]string{
		"byte x; init { x = 1; byte x; x = 2; { byte x } }":                                       "1:x:-1:0 4:init:-1:0 1:x:1:0 1:x:1:0 | 15=0 30=2",
		"mtype = { a, b } byte z = c; mtype { c }":                                                "2:a:-1:1 2:b:-1:2 1:z:-1:0 2:c:-1:3 | 26=3",
		"typedef T { byte a, b; U u } typedef U { byte a } T t; init { t.u.a = t.b }":             "3:T:-1:0 5:a:0:0 5:b:0:0 5:u:0:0 3:U:-1:0 5:a:4:0 1:t:-1:0 4:init:-1:0 | 23=4 50=0 62=6 70=6",
		"proctype p(byte x; byte y = x) { L: goto L } never { M: goto M }":                        "4:p:-1:0 4:never:-1:0 1:x:0:0 1:y:0:0 6:L:0:0 6:M:1:0 | 28=2 36=4 56=5",
		"init { byte x = x } byte x":                                                              "4:init:-1:0 1:x:-1:0 1:x:0:0 | 16=1",
		"byte x; init { if :: byte x; x :: x fi; x }":                                             "1:x:-1:0 4:init:-1:0 1:x:1:0 | 29=2 34=0 40=0",
		"byte x; proctype p(byte x) provided (x) { x }":                                           "1:x:-1:0 4:p:-1:0 1:x:1:0 | 37=0 42=2",
		"proctype p() { { byte a; L: skip }; byte a } init { byte a; p[a]:a == p[1]@L; run p() }": "4:p:-1:0 4:init:-1:0 1:a:0:0 6:L:0:0 1:a:0:0 1:a:1:0 | 62=5 65=2 60=0 75=3 70=0 78=0",
		"init { byte a[2]; a[a[1]] = 1 }":                                                         "4:init:-1:0 1:a:0:0 | 20=1 18=1",
		"byte i; typedef T { byte a[2] } T t; init { t.a[i] = 1 }":                                "1:i:-1:0 3:T:-1:0 5:a:1:0 1:t:-1:0 4:init:-1:0 | 32=1 48=0 44=3",
		"byte i, j; typedef T { byte a[2] } T t[2]; init { t[i].a[j] = 1 }":                       "1:i:-1:0 1:j:-1:0 3:T:-1:0 5:a:2:0 1:t:-1:0 4:init:-1:0 | 35=2 52=0 57=1 50=4",
		"init { goto a; { a: skip } }":                                                            "4:init:-1:0 6:a:0:0 | 7=1",
		"init { xr x; byte x }":                                                                   "error 11 at 10",
	} {
		if got := told(t, s); got != want {
			t.Errorf("%s:\ngot  %s\nwant %s", s, got, want)
		}
	}
}

func TestWrong(t *testing.T) {
	for s, want := range map[string]string{
		"byte x; byte x":                                   "12 13",
		"byte x; bit a, x":                                 "12 15",
		"mtype = { a, a }":                                 "12 13",
		"byte a; mtype = { a }":                            "12 18",
		"typedef T { byte a } byte T":                      "12 26",
		"proctype p() { 1 } proctype p() { 1 }":            "12 19",
		"init { 1 } init { 1 }":                            "12 11",
		"never { 1 } never n { 1 }":                        "12 12",
		"typedef T { byte a; bit a }":                      "12 24",
		"init { byte a; byte a }":                          "12 20",
		"proctype p(byte a) { byte a }":                    "12 26",
		"init { { a: 1 }; a: 1 }":                          "12 17",
		"init { { byte a; byte a }; y = 1 } byte z; bit z": "12 47",
		"init { y = 1; byte a; byte a }":                   "12 27",
		"init { y = 1 }":                                   "11 7",
		"init { goto a }":                                  "11 7",
		"init { { byte a }; a }":                           "11 19",
		"init { a; byte a }":                               "11 7",
		"init { byte a = a }":                              "11 16",
		"T x":                                              "11 0",
		"byte T; T x":                                      "11 8",
		"typedef T { byte a; U u }":                        "11 20",
		"typedef T { byte a = a }":                         "11 21",
		"typedef T { byte a } init { T = 1 }":              "11 28",
		"proctype p() { p = 1 }":                           "11 15",
		"init { byte T; T.a = 1 }":                         "",
		"init { run p() }":                                 "11 7",
		"byte p; init { run p() }":                         "11 15",
		"proctype p() { 1 } init { p[0]@a }":               "11 31",
		"init { p[x]@a }":                                  "11 7",
		"proctype p() { a: 1 } init { p[x]@a }":            "11 31",
		"proctype p() { 1 } init { byte a; p[0]:a }":       "11 39",
		"proctype p() { byte a[2] } init { p[0]:a[a] }":    "11 41",
		"proctype p() { a: 1 } init { goto a }":            "11 29",
		"byte x = y; typedef T { U a }":                    "11 9",
		"proctype p(byte x) provided (x) { 1 }":            "11 29",
		"proctype p(byte x = y; byte y) { 1 }":             "11 20",
		"init { a = b[c] }":                                "11 7",
	} {
		got := told(t, s)
		if want == "" {
			if strings.HasPrefix(got, "error") {
				t.Errorf("%s: got %s", s, got)
			}
			continue
		}
		p := strings.Fields(want)
		if got != "error "+p[0]+" at "+p[1] {
			t.Errorf("%s: got %s, want %s", s, got, want)
		}
	}
	for _, tree := range []api.Tree{nil, {{Kind: api.ENum}}, {{Kind: api.MAll, N: 3}}} {
		if _, e, at := Find(tree); e != api.ErrTree || at != 0 {
			t.Errorf("%v: error %d", tree, e)
		}
	}
}

// P6.3: other names, each for one variable, mean the same.
func TestRenamed(t *testing.T) {
	a := "byte x; init { byte y; { byte z; x = y + z; L: goto L } }"
	b := "byte x; init { byte q; { byte r; x = q + r; L: goto L } }"
	if ga, gb := told(t, a), told(t, b); ga[strings.Index(ga, "|"):] != gb[strings.Index(gb, "|"):] {
		t.Errorf("%s, %s", ga, gb)
	}
}

// Trees that are too great for a source are found names of all the same.
func TestGreat(t *testing.T) {
	name := strings.Repeat("n", api.MaxName)
	tree := api.Tree{{Kind: api.DType, N: api.TyByte}, {Kind: api.DVar, Text: name}, {Kind: api.DDecl, Kids: []int{0, 1}}, {Kind: api.MHead}}
	var seq []int
	for range 3000 {
		seq = append(seq, len(tree)+1)
		tree = append(tree, api.Node{Kind: api.ERef, Text: name}, api.Node{Kind: api.PExpr, Kids: []int{len(tree)}})
	}
	tree = append(tree, api.Node{Kind: api.DSeq, Kids: seq})
	tree = append(tree, api.Node{Kind: api.MInit, Kids: []int{3, len(tree) - 1}})
	tree = append(tree, api.Node{Kind: api.MAll, Kids: []int{2, len(tree) - 1}})
	if n, e, _ := Find(tree); e != api.OK || n.Of[4] != 0 {
		t.Fatalf("error %d", e)
	}
}
