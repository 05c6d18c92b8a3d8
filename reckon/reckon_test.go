package reckon

import (
	"fmt"
	"testing"

	"spinneret/api"
	"spinneret/compile"
	"spinneret/state"
)

// What the calls of package expr don't show: all numbers of a row, those that have to match, and a variable that is set in the Env's own state.
func TestRows(t *testing.T) {
	m, e, at := compile.Compile("byte g = 3, a[2]; chan q = [1] of { byte, byte, byte }; active proctype p() { q!g,g + 1,7; q?g,eval(g + 2),9; q?_,eval(1 / a[0]),9; q?a[5],_,9; q!1,1 / a[0],2; a[1] = 4 }")
	if e != api.OK {
		t.Fatalf("error %d at %d", e, at)
	}
	s, _ := state.First(m)
	env := &api.Env{M: m, S: s}
	stmt := func(place int) api.Stmt { return m.Procs[0].Locs[place].Out[0].S }
	if l, err := All(env, stmt(0).Args); fmt.Sprint(l) != "[3 4 7]" || err != api.OK {
		t.Errorf("error %d, %v", err, l)
	}
	if l, err := All(env, stmt(4).Args); l != nil || err != api.ErrDivide {
		t.Errorf("error %d, %v", err, l)
	}
	for place, want := range map[int]string{1: "[0 5 9] 0", 2: "[] 48", 3: "[0 0 9] 0"} {
		if l, err := Wanted(env, stmt(place).Args, stmt(place).Match); fmt.Sprint(l, " ", int(err)) != want {
			t.Errorf("place %d: error %d, %v", place, err, l)
		}
	}
	if err := Set(env, stmt(5).A, 260); err != api.OK || fmt.Sprint(env.S.Globals) != "[3 0 4 1]" {
		t.Errorf("error %d, %v", err, env.S)
	}
	if err := Set(env, stmt(3).Args[0], 1); err != api.ErrIndex || fmt.Sprint(env.S.Globals) != "[3 0 4 1]" {
		t.Errorf("error %d, %v", err, env.S)
	}
	if n, err := Chan(env, stmt(0).A); n != 1 || err != api.OK {
		t.Errorf("error %d, %d", err, n)
	}
}
