package rules

import (
	"fmt"
	"slices"
	"strings"
	"testing"

	"spinneret/api"
	"spinneret/names"
	"spinneret/syntax"
	"spinneret/types"
)

func read(t *testing.T, s string) (api.Tree, api.Names, api.Layout) {
	t.Helper()
	tree, e, at := syntax.Read(s)
	if e != api.OK {
		t.Fatalf("%s: error %d at %d", s, e, at)
	}
	n, e, at := names.Find(tree)
	if e != api.OK {
		t.Fatalf("%s: name error %d at %d", s, e, tree[at].At)
	}
	y, e, at := types.Lay(tree, n)
	if e != api.OK {
		t.Fatalf("%s: layout error %d at %d", s, e, tree[at].At)
	}
	return tree, n, y
}

// check holds what is told of each source against what is wanted: the error and the place, or nothing.
func check(t *testing.T, head, tail string, cases map[string]string) {
	t.Helper()
	for s, want := range cases {
		tree, n, y := read(t, head+s+tail)
		e, at := Check(tree, n, y)
		got := ""
		if e != api.OK {
			got = fmt.Sprint(int(e), tree[at].At-len(head))
			if tree[at].Kind == api.MAll {
				got = fmt.Sprint(int(e), " all")
			}
		} else if at != 0 {
			t.Errorf("%s: place %d", s, at)
		}
		if got != want {
			t.Errorf("%s: got %s, want %s", s, got, want)
		}
	}
}

func TestSteps(t *testing.T) {
	eight, nine := strings.Repeat("{", 8), strings.Repeat("{", 9)
	check(t, "byte x, w[2]; chan q = [1] of { byte }; init { ", " }", map[string]string{
		"if :: else -> if :: else fi :: x fi":                   "",
		"if :: if :: else fi :: 1 fi":                           "14 12",
		"if :: x :: else fi":                                    "",
		"if :: else :: x :: else fi":                            "14 19",
		"if :: else :: else; x fi":                              "14 14",
		"else":                                                  "14 0",
		"{ else }":                                              "14 2",
		"if :: x; else fi":                                      "14 9",
		"if :: { else } fi":                                     "14 8",
		"if :: xr x; else fi":                                   "14 12",
		"do :: else -> break od":                                "",
		"if :: xr x; if :: else fi :: 1 fi":                     "14 18",
		"if :: byte y; if :: else fi :: 1 fi":                   "14 20",
		"if :: chan y; if :: else fi :: 1 fi":                   "14 20",
		"if :: chan y = [1] of { byte }; if :: else fi :: 1 fi": "",
		"if :: { { if :: else fi } } :: 1 fi":                   "14 16",
		"if :: atomic { do :: else od } :: 1 fi":                "14 21",
		"if :: d_step { if :: else fi } :: 1 fi":                "14 21",
		"if :: { x; if :: else fi } :: 1 fi":                    "",
		"if :: for (x : 1 .. 2) { if :: else fi } :: 1 fi":      "",
		"if :: byte y fi; if :: xr x :: else fi":                "",
		"if :: L: if :: else fi :: 1 fi":                        "14 15",
		"if :: if :: else fi unless x fi":                       "14 12",
		"if :: x unless { if :: else fi } fi":                   "14 6",
		"for (x in w) { break }":                                "",
		"for (x in w) { d_step { x; break } }":                  "14 27",
		"if :: L: x fi":                                         "14 6",
		"if :: x; L: x fi":                                      "",
		"if :: { L: x } fi":                                     "14 8",
		"if :: xr x; { byte y; L: x } fi":                       "14 22",
		"if :: x unless x fi":                                   "14 6",
		"if :: x; x unless x fi":                                "",
		"if :: x; { x; if :: else fi } unless x fi":             "",
		"break":          "14 0",
		"if :: break fi": "14 6",
		"do :: break od": "",
		"do :: if :: break fi od; for (x : 1 .. 2) { break }": "",
		"do :: d_step { x; break } od":                        "14 18",
		"d_step { do :: break od }":                           "",
		"do :: d_step { do :: x; d_step { break } od } od":    "14 33",
		"d_step { goto a }; a: x":                             "14 9",
		"goto a; d_step { x; a: x }":                          "14 0",
		"d_step { goto a; a: x }":                             "",
		"d_step { goto a }; d_step { a: x }":                  "14 9",
		"d_step { d_step { goto a }; a: x }":                  "14 18",
		"atomic { goto a }; a: x":                             "",
		"d_step { x unless x }":                               "14 9",
		"d_step { { { x } unless x } }":                       "14 11",
		eight + "x" + strings.Repeat("} unless x", 8):         "",
		nine + "x" + strings.Repeat("} unless x", 9):          "15 8",
		"x unless { x unless { x unless { x unless { x unless { x unless { x unless { x unless { x unless x } } } } } } } }": "15 88",
	})
}

func TestExpressions(t *testing.T) {
	check(t, "byte x, a[3]; chan q = [1] of { byte }; proctype p(byte y) { 1 } init { ", " }", map[string]string{
		"run p(1); x = run p(2)":            "",
		"x = 1 + run p(1)":                  "14 8",
		"assert run p(1)":                   "14 7",
		"a[run p(1)] = 1":                   "14 2",
		"(run p(run p(1)))":                 "14 7",
		"!run p(1)":                         "14 1",
		"byte z; z = _pid; np_":             "14 18",
		"timeout; _last == _nr_pr":          "",
		"q!1,2,3,4,5,6,7,8":                 "",
		"q!1,2,3,4,5,6,7,8,9":               "15 0",
		"q?1,2,3,4,5,6,7,8,9":               "15 0",
		"q?[1,2,3,4,5,6,7,8,9]":             "15 0",
		"q?[1,2,3,4,5,6,7,8]":               "",
		`printf("%d%c%x%e%u%%", 1,2,3,4,5)`: "",
		`printf("%d")`:                      "14 0",
		`printf("a", 1)`:                    "14 0",
		`printf("%i", 1)`:                   "14 0",
		`printf("%%%")`:                     "14 0",
		`printf("%%d")`:                     "",
		"printm(x)":                         "",
	})
	check(t, "byte x; chan q = [1] of { byte }; init { 1 } never { ", " }", map[string]string{
		"do :: x == 1; assert x :: else -> np_; skip :: q?[1] -> goto L od; L: break_: timeout": "",
		"byte y":                   "14 0",
		"chan y = [1] of { byte }": "14 0",
		"x = 1":                    "14 0",
		"x++":                      "14 0",
		"q!1":                      "14 0",
		"q?1":                      "14 0",
		"q!1,2,3,4,5,6,7,8,9":      "15 0",
		`printf("a")`:              "14 0",
		"printm(1)":                "14 0",
		"for (x : 1 .. 2) { 1 }":   "14 0",
		"select (x : 1 .. 2)":      "14 0",
		"atomic { 1 }":             "14 0",
		"d_step { 1 }":             "14 0",
		"{ 1 }":                    "",
		"1 unless 1":               "14 0",
		"_pid":                     "14 0",
		"xr x":                     "",
	})
}

func TestModules(t *testing.T) {
	check(t, "", "", map[string]string{
		"byte x":                    "14 all",
		"proctype p() { 1 }":        "14 all",
		"never { 1 }":               "14 all",
		"init { 1 }":                "",
		"active proctype p() { 1 }": "",
		"active proctype p() provided (_pid) { 1 }":                                 "14 30",
		"active proctype p() provided (np_) { 1 }":                                  "14 30",
		"proctype q() { 1 } active proctype p() provided (run q()) { 1 }":           "14 49",
		"active proctype p() provided (timeout) { byte x; x = _pid }":               "",
		"active [16] proctype p() { 1 }":                                            "",
		"active [17] proctype p() { 1 }":                                            "15 all",
		"active [16] proctype p() { 1 } init { 1 }":                                 "15 all",
		"chan c[32] = [0] of { byte }; init { 1 }":                                  "",
		"chan c[31] = [0] of { byte }, d = [0] of { bit }; init { 1 }":              "",
		"chan c[31] = [0] of { byte }, d[2] = [0] of { bit }; init { 1 }":           "15 all",
		"chan c[33] = [0] of { byte }; init { 1 }":                                  "15 all",
		"chan c[30] = [0] of { byte }; chan d, e[2] = [1] of { byte }; init { 1 }":  "",
		"init { byte y; chan c[99] = [0] of { byte }; 1 }":                          "",
		"init { " + strings.Repeat("{ chan c = [0] of { byte }; 1 };", 32) + " 1 }": "",
		"init { " + strings.Repeat("{ chan c = [0] of { byte }; 1 };", 33) + " 1 }": "15 all",
	})
	s := "init { 1 } "
	for i := range 15 {
		s += fmt.Sprintf("proctype p%d() { 1 } ", i)
	}
	check(t, "", "", map[string]string{
		s:                        "",
		s + "never { 1 }":        fmt.Sprint("15 ", len(s)),
		s + "proctype q() { 1 }": fmt.Sprint("15 ", len(s)),
	})
}

// Of several nodes the least place: a Kid is ahead of the node that has it.
func TestOrder(t *testing.T) {
	check(t, "", "", map[string]string{
		"init { break; else }":             "14 7",
		"init { if :: L: else fi; break }": "14 16",
		"proctype p() { { else } }":        "14 17",
		"init { break } never { byte x }":  "14 7",
	})
}

func TestOthers(t *testing.T) {
	tree, n, y := read(t, "byte x[2]; byte z; init { byte y; y = x[1] }")
	if e, _ := Check(tree, n, y); e != api.OK {
		t.Fatalf("error %d", e)
	}
	for i, change := range []func(y *api.Layout){
		func(y *api.Layout) { y.Lays = slices.Clone(y.Lays); y.Lays[0].Slot++ },
		func(y *api.Layout) { y.Uses = y.Uses[1:] },
		func(y *api.Layout) {
			y.Uses = slices.Clone(y.Uses)
			for i := range y.Uses {
				y.Uses[i].Dims = nil
			}
		},
		func(y *api.Layout) { y.Globals = nil },
		func(y *api.Layout) { use(y, func(u *api.Use) { u.Scope++ }) }, func(y *api.Layout) { use(y, func(u *api.Use) { u.Type++ }) }, func(y *api.Layout) { use(y, func(u *api.Use) { u.Bits++ }) },
		func(y *api.Layout) { use(y, func(u *api.Use) { u.Slot++ }) }, func(y *api.Layout) { use(y, func(u *api.Use) { u.Whole = !u.Whole }) }, func(y *api.Layout) { use(y, func(u *api.Use) { u.Len++ }) },
		func(y *api.Layout) { use(y, func(u *api.Use) { u.Dims = []api.Index{{}} }) },
		func(y *api.Layout) { y.Init = []int64{0, 0, 1} },
		func(y *api.Layout) { y.Frames = nil },
		func(y *api.Layout) { y.Inits = [][]int64{nil, nil, {4}, nil} },
	} {
		other := y
		change(&other)
		if e, at := Check(tree, n, other); e != api.ErrTree || at != 0 {
			t.Errorf("%d: error %d", i, e)
		}
	}
	if e, at := Check(tree, api.Names{}, y); e != api.ErrTree || at != 0 {
		t.Errorf("error %d", e)
	}
	if e, at := Check(nil, n, y); e != api.ErrTree || at != 0 {
		t.Errorf("error %d", e)
	}
}

// use changes the last use.
func use(y *api.Layout, change func(u *api.Use)) {
	y.Uses = slices.Clone(y.Uses)
	change(&y.Uses[len(y.Uses)-1])
}
