package types

import (
	"fmt"
	"strings"
	"testing"

	"spinneret/api"
	"spinneret/names"
	"spinneret/syntax"
)

func read(t *testing.T, s string) (api.Tree, api.Names) {
	t.Helper()
	tree, e, at := syntax.Read(s)
	if e != api.OK {
		t.Fatalf("%s: error %d at %d", s, e, at)
	}
	n, e, at := names.Find(tree)
	if e != api.OK {
		t.Fatalf("%s: name error %d at %d", s, e, tree[at].At)
	}
	return tree, n
}

// P7.1.
func TestOf(t *testing.T) {
	for ty, want := range map[int]api.Type{1: {Bits: 1}, 2: {Bits: 1}, 3: {Bits: 8}, 4: {Bits: 16, Signed: true}, 5: {Bits: 32, Signed: true}, 6: {Bits: 5}, 7: {Bits: 8}, 8: {Bits: 8}, 9: {Bits: 8}} {
		if got, e := Of(ty, 5); got != want || e != api.OK {
			t.Errorf("%d: %v, error %d", ty, got, e)
		}
	}
	for _, c := range [][2]int{{6, 0}, {6, 33}, {6, -1}, {0, 5}, {10, 5}, {-1, 5}, {11, 5}} {
		if got, e := Of(c[0], c[1]); got != (api.Type{}) || e != api.ErrArg {
			t.Errorf("%v: %v, error %d", c, got, e)
		}
	}
	for _, bits := range []int{1, 32} {
		if got, e := Of(api.TyUnsigned, bits); got.Bits != bits || e != api.OK {
			t.Errorf("%d bits: error %d", bits, e)
		}
	}
}

// P7.2.
func TestConst(t *testing.T) {
	for s, want := range map[string]string{
		"3": "3", "m": "2", "-m": "-2", "!0": "1", "~0": "-1", "2 + 3 * m": "8", "7 / 2": "3", "7 / 0": "no", "7 % 0": "no",
		"2 && 3": "1", "1 && 1": "1", "1 && 0": "0", "0 && 1": "0", "0 || 1": "1", "1 || 0": "1", "0 || 0": "0", "l": "1", "l && l": "1", "2 && 0": "0", "0 || 3": "1", "0 && x": "no", "1 || x": "no", "0 && (1 / 0)": "no", "(1 -> 2 : 3)": "2", "(0 -> 2 : 3)": "3", "(1 -> 2 : x)": "no", "(x -> 1 : 2)": "no",
		"x": "no", "a[1]": "no", "_pid": "no", "1 << 31": "-2147483648", "len(c)": "no", "m == 2": "1",
	} {
		tree, n := read(t, "mtype = { l, m } byte x; byte a[2]; chan c; init { assert "+s+" }")
		v, ok := Const(tree, n, len(tree)-5)
		got := fmt.Sprint(v)
		if !ok {
			got = "no"
			if v != 0 {
				t.Errorf("%s: %d beside false", s, v)
			}
		}
		if got != want {
			t.Errorf("%s: %s", s, got)
		}
	}
	tree, n := read(t, "mtype = { k } init { k[1] }")
	if v, ok := Const(tree, n, len(tree)-5); v != 0 || ok {
		t.Errorf("a number's name with an index: %d", v)
	}
	tree, n = read(t, "byte x = 5")
	if v, ok := Const(tree, n, 1); v != 5 || !ok {
		t.Errorf("%d", v)
	}
	if v, ok := Const(tree, n, 0); v != 0 || ok {
		t.Errorf("node 0: %d", v)
	}
	tree, n = read(t, "init { 1 }")
	for _, node := range []int{-1, len(tree), len(tree) - 1} {
		if v, ok := Const(tree, n, node); v != 0 || ok {
			t.Errorf("node %d: %d", node, v)
		}
	}
	if v, ok := Const(tree, api.Names{}, 1); v != 0 || ok {
		t.Errorf("other names: %d", v)
	}
}

// P7.3, P7.6.
func TestLay(t *testing.T) {
	tree, n := read(t, "mtype = { k, l } typedef P { byte a; short b[3] } P x[2]; int y = -1; unsigned u : 5 = 33; chan c[2] = [1] of { byte }, d, e = [0] of { byte }; byte z[2] = l; proctype p(byte q; bit r) { P s; { int v = 3; chan w = [2] of { byte } } }")
	y, e, at := Lay(tree, n)
	if e != api.OK || at != 0 {
		t.Fatalf("error %d", e)
	}
	var l []string
	for i, s := range n.Syms {
		if k := y.Lays[i]; s.Kind == api.SymVar || s.Kind == api.SymField {
			l = append(l, fmt.Sprint(s.Name, k))
		} else if k != (api.Lay{}) {
			t.Errorf("%s: %v", s.Name, k)
		}
	}
	want := "a{3 0 -1 0 0 1} b{4 0 -1 3 1 1} x{10 0 2 2 0 4} y{5 0 -1 0 8 1} u{6 5 -1 0 9 1} c{9 0 -1 2 10 1} d{9 0 -1 0 12 1} e{9 0 -1 0 13 1} z{3 0 -1 2 14 1} q{3 0 -1 0 0 1} r{1 0 -1 0 1 1} s{10 0 2 0 2 4} v{5 0 -1 0 6 1} w{9 0 -1 0 7 1}"
	if got := strings.Join(l, " "); got != want {
		t.Errorf("got  %s\nwant %s", got, want)
	}
	if got := fmt.Sprint(y.Globals); got != "[{8 false} {16 true} {16 true} {16 true} {8 false} {16 true} {16 true} {16 true} {32 true} {5 false} {8 false} {8 false} {8 false} {8 false} {8 false} {8 false}]" {
		t.Errorf("globals %s", got)
	}
	if got := fmt.Sprint(y.Init); got != "[0 0 0 0 0 0 0 0 -1 1 1 2 0 3 2 2]" {
		t.Errorf("init %s", got)
	}
	for i, s := range n.Syms {
		if s.Kind == api.SymProc {
			if got := fmt.Sprint(y.Frames[i], y.Inits[i]); got != "[{8 false} {1 false} {8 false} {16 true} {16 true} {16 true} {32 true} {8 false}] [0 0 0 0 0 0 3 0]" {
				t.Errorf("frame %s", got)
			}
		} else if y.Frames[i] != nil || y.Inits[i] != nil {
			t.Errorf("frame of %s", s.Name)
		}
	}
}

// P7.4.
func TestUse(t *testing.T) {
	head := "mtype = { k } typedef Q { unsigned u : 4; byte w[5] } typedef P { byte a; Q b[3] } P x[2], o; byte y, z[4]; chan c[2]; proctype p(byte q) { byte h; h = q; x[1].b[y].w[z[0]] = 1 } init { byte i; "
	for s, want := range map[string]string{
		"i = y":                         "{1 3 0 0 false 0 []} {0 3 0 57 false 0 []}",
		"i = z[2]":                      "{1 3 0 0 false 0 []} {0 3 0 58 false 0 [4/1]}",
		"i = k":                         "{1 3 0 0 false 0 []} {3 7 0 0 false 0 []}",
		"x[i].b[1].w[2]++":              "{1 3 0 0 false 0 []} {0 3 0 2 false 0 [2/19 3/6 5/1]}",
		"x[0].b[1].u++":                 "{0 6 4 1 false 0 [2/19 3/6]}",
		"o.a++":                         "{0 3 0 38 false 0 []}",
		"xr z, x, x[1], o, o.b, o.b[1]": "{0 3 0 58 true 4 []} {0 10 0 0 true 2 []} {0 10 0 0 true 0 [2/19]} {0 10 0 38 true 0 []} {0 10 0 39 true 3 []} {0 10 0 39 true 0 [3/6]}",
		"p[i]:h == p[0]:q":              "{1 3 0 0 false 0 []} {2 3 0 1 false 0 []} {2 3 0 0 false 0 []}",
		"c[1]!y; len(c[0])":             "{0 9 0 62 false 0 [2/1]} {0 3 0 57 false 0 []} {0 9 0 62 false 0 [2/1]}",
		"for (i in z) { 1 }":            "{1 3 0 0 false 0 []} {0 3 0 58 true 4 []}",
	} {
		tree, n := read(t, head+s+" }")
		y, e, at := Lay(tree, n)
		if e != api.OK {
			t.Errorf("%s: error %d at %d", s, e, tree[at].At)
			continue
		}
		var l []string
		for i, u := range y.Uses {
			if tree[i].Kind == api.ERef && n.Of[i] >= 0 {
				if tree[i].At < len(head) {
					continue
				}
				dims := []string{}
				for _, d := range u.Dims {
					dims = append(dims, fmt.Sprintf("%d/%d", d.Len, d.Stride))
				}
				l = append(l, fmt.Sprintf("{%d %d %d %d %v %d %v}", u.Scope, u.Type, u.Bits, u.Slot, u.Whole, u.Len, dims))
			} else if fmt.Sprint(u) != fmt.Sprint(api.Use{}) {
				t.Errorf("%s: node %d: %v", s, i, u)
			}
		}
		if got := strings.Join(l, " "); got != want {
			t.Errorf("%s:\ngot  %s\nwant %s", s, got, want)
		}
	}
}

// P7.5: errors, and where.
func TestWrong(t *testing.T) {
	head := "mtype = { k } typedef P { byte a; short b[3] } P x[2]; byte y, z[4]; chan c, d[2]; proctype q(byte r; byte w) { 1 } init { "
	for s, want := range map[string]string{
		"unsigned u : 33":                 "15 9",
		"unsigned u : 32":                 "",
		"byte z[129]":                     "15 5",
		"byte z[128]":                     "",
		"byte z[128], y":                  "15 13",
		"typedef A { byte a[129] }":       "15 17",
		"typedef A { byte a[64] } A b[3]": "15 27",
		"typedef A { byte a[64] } typedef B { A b[2]; bit c }":               "15 49",
		"typedef B { A b[2] } typedef A { byte a[100] }":                     "15 14",
		"typedef A { byte a = 1 }":                                           "13 17",
		"proctype p(byte a = 1) { 1 }":                                       "13 16",
		"proctype p(byte a[1]) { 1 }":                                        "13 16",
		"chan c = [1] of { bit, bit, bit, bit, bit, bit, bit, bit }":         "",
		"byte a[1]; init { a = 1 }":                                          "13 18",
		"typedef T { byte a } T t[1]; init { t.a = 1 }":                      "13 36",
		"byte a[1], y; init { for (y in a) { 1 } }":                          "",
		"proctype p(byte a[2]) { 1 }":                                        "13 16",
		"typedef T { byte a } proctype p(T t) { 1 }":                         "13 34",
		"typedef T { byte a } T t = 1":                                       "13 23",
		"typedef A { A x }":                                                  "13 12",
		"typedef A { B x } typedef B { byte y; A z }":                        "13 12",
		"C c; typedef C { byte q; A x } typedef A { B x } typedef B { A z }": "13 0",
		"typedef A { B x } typedef B { byte y }":                             "",
		"chan c = [17] of { byte }":                                          "15 9",
		"chan c = [16] of { byte }":                                          "",
		"chan c = [1] of { bit, bit, bit, bit, bit, bit, bit, bit, bit }":    "15 9",
		"chan c = [1] of { byte, unsigned }":                                 "13 24",
		"typedef T { byte a } chan c = [1] of { T }":                         "13 39",
		"byte x = y; byte y":                                                 "13 9",
		"byte x = 1 / 0":                                                     "13 11",
		"init { byte x = _pid }":                                             "13 16",
		"typedef T { byte a[2]; byte b[127] }":                               "15 28",
	} {
		wrong(t, "", s, want)
	}
	for s, want := range map[string]string{
		"k.a = 1":                 "13 0",
		"k[1] = 1":                "13 0",
		"y[1] = 1":                "13 0",
		"y.a = 1":                 "13 0",
		"x.a = 1":                 "13 0",
		"x[0].c = 1":              "11 5",
		"x[0].a.b = 1":            "13 5",
		"x[0].a[1] = 1":           "13 5",
		"x[0].b = 1":              "13 0",
		"z = 1":                   "13 0",
		"x[0] = 1":                "13 0",
		"k = 1":                   "13 0",
		"y = z":                   "13 4",
		"y = k":                   "",
		"y = x[1]":                "13 4",
		"k++":                     "13 0",
		"z++":                     "13 0",
		"y[1]--":                  "13 0",
		"len(y)":                  "13 4",
		"len(d)":                  "13 4",
		"len(k)":                  "13 4",
		"len(d[1])":               "",
		"y!1":                     "13 0",
		"d?y":                     "13 0",
		"c?z":                     "13 2",
		"c?k,y,_":                 "",
		"c!z":                     "13 2",
		"y?[1]":                   "13 0",
		"for (z : 1 .. 2) { 1 }":  "13 5",
		"for (k : 1 .. 2) { 1 }":  "13 5",
		"for (y : z .. 2) { 1 }":  "13 9",
		"for (y in y) { 1 }":      "13 10",
		"for (y in x) { 1 }":      "13 10",
		"for (y in x[1]) { 1 }":   "13 10",
		"for (y in x[1].b) { 1 }": "",
		"for (z in z) { 1 }":      "13 5",
		"select (k : 1 .. 2)":     "13 8",
		"xr k[1]":                 "13 3",
		"xr k.a":                  "13 3",
		"y?1":                     "13 0",
		"k?1":                     "13 0",
		"k!1":                     "13 0",
		"k?[1]":                   "13 0",
		"for (k in z) { 1 }":      "13 5",
		"xr k, z, x, x[1]":        "",
		"run q(1)":                "13 0",
		"run q(1, 2)":             "",
		"run q(1, 2, 3)":          "13 0",
		"z[x[0]] = 1":             "13 2",
		"q[0]:r == 1":             "",
		"assert z":                "13 7",
	} {
		wrong(t, head, s+" }", want)
	}
	deep := "typedef A { byte a[2] } typedef B { A b[2] } typedef C { B c[2] } typedef D { C d[2] } typedef E { D e[2] } "
	wrong(t, deep+"D x[2]; init { ", "x[0].d[0].c[0].b[0].a[0] = 1 }", "15 0")
	wrong(t, deep+"D x; init { ", "x.d[0].c[0].b[0].a[0] = 1 }", "")
}

func wrong(t *testing.T, head, s, want string) {
	t.Helper()
	tree, n := read(t, head+s)
	y, e, at := Lay(tree, n)
	got := ""
	if e != api.OK {
		got = fmt.Sprint(int(e), tree[at].At-len(head))
		if y.Lays != nil || y.Uses != nil || y.Globals != nil {
			t.Errorf("%s: a layout beside an error", s)
		}
	}
	if got != want {
		t.Errorf("%s: got %s, want %s", s, got, want)
	}
}

func TestOthers(t *testing.T) {
	tree, n := read(t, "byte x; init { x = 1 }")
	other := n
	other.Of = append([]int{5}, n.Of[1:]...)
	for _, o := range []api.Names{{}, other, {Syms: n.Syms}, {Of: n.Of}} {
		if _, e, at := Lay(tree, o); e != api.ErrTree || at != 0 {
			t.Errorf("error %d at %d", e, at)
		}
	}
	if _, e, _ := Lay(nil, api.Names{}); e != api.ErrTree {
		t.Errorf("error %d", e)
	}
}

// The first symbol is a proctype, or a typedef.
func TestFirstSymbol(t *testing.T) {
	tree, n := read(t, "proctype p(byte a) { chan c = [0] of { bit }, d; byte e = 3; a = e } ")
	y, e, _ := Lay(tree, n)
	if got := fmt.Sprint(y.Frames[0], y.Inits[0], y.Globals, y.Init); e != api.OK || got != "[{8 false} {8 false} {8 false} {8 false}] [0 0 0 3] [] []" {
		t.Errorf("error %d, %s", e, got)
	}
	for i, u := range y.Uses {
		if tree[i].Kind == api.ERef && u.Scope != api.Local {
			t.Errorf("%v", u)
		}
	}
	tree, n = read(t, "typedef T { byte a; short b } T t[2]")
	y, e, _ = Lay(tree, n)
	if got := fmt.Sprint(y.Globals, y.Lays); e != api.OK || got != "[{8 false} {16 true} {8 false} {16 true}] [{0 0 0 0 0 0} {3 0 -1 0 0 1} {4 0 -1 0 1 1} {10 0 0 2 0 2}]" {
		t.Errorf("error %d, %s", e, got)
	}
}
