package compile

import (
	"fmt"
	"testing"

	"spinneret/api"
	"spinneret/print"
	"spinneret/syntax"
)

// P10.1: the first error of all steps, and its place.
func TestErrors(t *testing.T) {
	for s, want := range map[string][2]int{
		"init { x = 1 }":                       {int(api.ErrName), 7},
		"init { break }":                       {int(api.ErrRule), 7},
		"$":                                    {int(api.ErrChar), 0},
		"#if":                                  {int(api.ErrPrep), 0},
		"init {":                               {int(api.ErrSyntax), 6},
		" byte x; byte x":                      {int(api.ErrTwice), 14},
		"byte x[129]; init { break }":          {int(api.ErrStatic), 5},
		" byte x":                              {int(api.ErrRule), 1},
		"":                                     {int(api.ErrRule), 0},
		"init { break; y = 1 }":                {int(api.ErrName), 14},
		"byte x; init { break; x[1] = 1 }":     {int(api.ErrType), 22},
		"#define N 129\nbyte x[N]; init { 1 }": {int(api.ErrStatic), 19},
		"inline p(a) { a = 1 }\ninit { p(y) }": {int(api.ErrName), 29},
	} {
		m, e, at := Compile(s)
		if int(e) != want[0] || at != want[1] {
			t.Errorf("%s: error %d at %d", s, e, at)
		}
		if m.Procs != nil || m.Claim != 0 {
			t.Errorf("%s: a model beside an error", s)
		}
	}
}

func TestCompile(t *testing.T) {
	m, e, at := Compile("active proctype p() { byte x; x = x + 1; assert x == 1 }")
	if e != api.OK || at != 0 || len(m.Procs) != 1 {
		t.Fatalf("error %d at %d", e, at)
	}
	p := m.Procs[0]
	if len(p.Locs) != 3 || p.Final != 2 || p.Active != 1 || len(p.Frame) != 1 {
		t.Errorf("%v", p)
	}
}

// P10.2: the printed tree makes the same model, but for lines.
func TestPrinted(t *testing.T) {
	s := "#define N 3\nmtype = { a, b } chan c = [N] of { mtype, byte };\ninline put(x) { c!x,N }\nactive [2] proctype p() { byte v;\ndo :: put(a) :: c?b,v :: atomic { v > 2 -> v = (v -> 1 : 2) } :: timeout -> break od unless v == 9 }"
	m, e, _ := Compile(s)
	if e != api.OK {
		t.Fatalf("error %d", e)
	}
	tree, _, _ := syntax.Read(s)
	text, _ := print.Text(tree)
	again, e, at := Compile(text)
	if e != api.OK {
		t.Fatalf("error %d at %d of %s", e, at, text)
	}
	for _, x := range []api.Model{m, again} {
		for _, p := range x.Procs {
			for _, l := range p.Locs {
				for _, ways := range append([][]api.Trans{l.Out}, l.Esc...) {
					for i := range ways {
						ways[i].Line = 0
					}
				}
			}
		}
	}
	if fmt.Sprint(m) != fmt.Sprint(again) {
		t.Errorf("got %v\nand %v", m, again)
	}
}
