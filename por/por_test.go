package por

import (
	"fmt"
	"testing"

	"spinneret/api"
	"spinneret/compile"
	"spinneret/state"
	"spinneret/step"
)

func model(t *testing.T, s string) api.Model {
	t.Helper()
	m, e, at := compile.Compile(s)
	if e != api.OK {
		t.Fatalf("%s: error %d at %d", s, e, at)
	}
	return m
}

// P19.1.
func TestAdmits(t *testing.T) {
	for s, want := range map[string]api.Errno{
		"active proctype p() { 1 }":                                          api.OK,
		"active proctype p() { timeout }":                                    api.OK,
		"active proctype p() { atomic { 1; 1 } }":                            api.OK,
		"active proctype p() { d_step { timeout; 1 } }":                      api.OK,
		"active proctype p() { atomic { 1; 1 }; timeout }":                   api.ErrMode,
		"active proctype p() { timeout } proctype q() { atomic { 1; 1 } }":   api.ErrMode,
		"never { 1 } active proctype p() { 1 }":                              api.ErrMode,
		"active proctype p() { 1 } never { 1 }":                              api.ErrMode,
		"active proctype p() priority 2 { 1 } proctype q() { 1 }":            api.ErrMode,
		"active proctype p() priority 2 { 1 } proctype q() priority 2 { 1 }": api.OK,
		"active proctype p() { _last == 0 }":                                 api.ErrMode,
		"active proctype p() { enabled(0) }":                                 api.ErrMode,
		"active proctype p() { pc_value(0) }":                                api.ErrMode,
		"active proctype p() { a: p[0]@a }":                                  api.ErrMode,
		"active proctype p() { byte x; p[0]:x }":                             api.ErrMode,
		"active proctype p() { goto a; _last == 0; a: 1 }":                   api.OK,
		"byte g; active proctype p() { _pid == _nr_pr + g }":                 api.OK,
	} {
		if got := Admits(model(t, s)); got != want {
			t.Errorf("%s: error %d", s, got)
		}
	}
	m := model(t, "active proctype p() { 1 }")
	m.Exprs = append(m.Exprs, api.Expr{Op: api.XLast, A: -1, B: -1, C: -1})
	if got := Admits(m); got != api.ErrMode {
		t.Errorf("one that no way uses: error %d", got)
	}
	if got := Admits(api.Model{}); got != api.ErrModel {
		t.Errorf("error %d", got)
	}
}

// P19.2: the first place of a proctype.
func TestSafe(t *testing.T) {
	head := "byte g; chan q = [1] of { byte }; "
	body := " proctype p(byte b) { 1 } active proctype r() { byte x, a[3]; "
	for s, want := range map[string]bool{
		"x = 1; x": true, "x; x": true, "a[x] = a[a[1]] + _pid; x": true, "(x -> 1 : -x) || !x && ~x; x": true, "printf(\"%d\", x); x": true, "skip; x": true, "if :: x :: else fi; x": true,
		"g = 1; x": false, "x = g; x": false, "a[g] = 1; x": false, "g; x": false, "printf(\"%d\", g); x": false, "assert x; x": false, "q!1; x": false, "q?x; x": false, "len(q); x": false, "nfull(q); x": false, "q?[1]; x": false, "_nr_pr == 1; x": false, "timeout; x": false,
		"x = run p(1); x": false, "run p(1); x": false, "if :: x :: g fi; x": false, "chan c = [1] of { bit }; x": false,
		"x unless 1": false, "{ x; x } unless 1": false, "accept: x; x": false, "progress: x; x": false, "end: x; x": true, "x; accept: x": false, "x; progress: x": false, "x; end: x": true,
		"atomic { x; x }": false, "d_step { x; x }": false, "x; atomic { x; x }": true, "x; q?x": true, "x; g unless g": true,
	} {
		m := model(t, head+body+s+" }")
		safe, e := Safe(m)
		if e != api.OK || len(safe) != 2 || len(safe[1]) != len(m.Procs[1].Locs) || safe[1][0] != want || safe[1][m.Procs[1].Final] {
			t.Errorf("%s: error %d, %v", s, e, safe)
		}
	}
	// Where processes meet, no step leads to a place that receives.
	for s, want := range map[string]bool{"x; q?x": false, "x; q??x": false, "x; q?<x>": true, "x; q??<x>": true, "x; { x } unless { q?x }": false, "x; q!1": true, "x; x": true} {
		safe, _ := Safe(model(t, head+"chan z = [0] of { byte };"+body+s+" }"))
		if safe[1][0] != want {
			t.Errorf("%s: %v", s, safe)
		}
	}
	safe, _ := Safe(model(t, "byte g; active proctype p() provided (g) { byte x; x; x }"))
	if safe[0][0] {
		t.Error("provided")
	}
	m := model(t, "active proctype p() { atomic { 1; 1 } }")
	safe, _ = Safe(m)
	if fmt.Sprint(safe) != "[[false false false]]" {
		t.Errorf("atomic: %v", safe)
	}
	if safe, e := Safe(model(t, "active proctype p() { _last == 0 }")); safe != nil || e != api.ErrMode {
		t.Errorf("error %d", e)
	}
}

// P19.3.
func TestAlone(t *testing.T) {
	m := model(t, "byte g; active proctype p() { byte x; x = 1; g = 1 } active proctype q() { g = 2 } active proctype r() { byte x; x == 1; x } active [2] proctype s() { byte y; y = 2; y = 3; y = 4 }")
	s, _ := state.First(m)
	l, _ := step.Steps(m, s)
	if got, e := Alone(m, s, l); fmt.Sprint(got) != "[0 3 4]" || e != api.OK {
		t.Errorf("error %d, %v", e, got)
	}
	if got, _ := Alone(m, s, append([]api.Next{{Move: api.Move{Pid: -1}}, {Move: api.Move{Pid: 5}}, {Move: api.Move{Pid: 99}}}, l[len(l)-1])); fmt.Sprint(got) != "[4]" {
		t.Errorf("got %v", got)
	}
	if got, _ := Alone(m, s, nil); len(got) != 0 {
		t.Errorf("got %v", got)
	}
	s.Last = -1
	if got, e := Alone(m, s, l); got != nil || e != api.ErrState {
		t.Errorf("error %d", e)
	}
	if _, e := Alone(model(t, "active proctype p() { _last == 0 }"), s, l); e != api.ErrMode {
		t.Errorf("error %d", e)
	}
}

// P19.4: both orders come to the same state, but for who went last.
func TestBothOrders(t *testing.T) {
	m := model(t, "byte g; chan q = [2] of { byte }; active proctype p() { byte x; do :: x < 2 -> x++ :: x == 2 -> g = g + 1; x = 0; q!g od } active proctype r() { byte y; do :: y = g; y = y % 3 :: g > 2 -> g = 0 :: q?y od }")
	seen := map[string]struct{}{}
	first, _ := state.First(m)
	wait := []api.State{first}
	checked := 0
	for len(wait) > 0 && len(seen) < 500 {
		s := wait[0]
		wait = wait[1:]
		l, _ := step.Steps(m, s)
		alone, _ := Alone(m, s, l)
		for _, pid := range alone {
			for _, a := range l {
				for _, b := range l {
					if a.Move.Pid == pid && b.Move.Pid != pid && a.Err == 0 && b.Err == 0 {
						ab, ba := follow(t, m, a.State, b.Move), follow(t, m, b.State, a.Move)
						ab.Last, ba.Last, ab.Alone, ba.Alone = 0, 0, 0, 0
						if !state.Same(ab, ba) {
							t.Fatalf("%v and %v in %v", a.Move, b.Move, s)
						}
						checked++
					}
				}
			}
		}
		for _, n := range l {
			key, _ := state.Encode(m, n.State)
			if _, there := seen[key]; !there {
				seen[key] = struct{}{}
				wait = append(wait, n.State)
			}
		}
	}
	if checked == 0 {
		t.Error("nothing to look at")
	}
}

func follow(t *testing.T, m api.Model, s api.State, v api.Move) api.State {
	t.Helper()
	l, _ := step.Steps(m, s)
	for _, n := range l {
		if n.Move == v && n.Err == api.OK {
			return n.State
		}
	}
	t.Fatalf("no such way: %v", v)
	return s
}
