package sim

import (
	"fmt"
	"math"
	"strings"
	"testing"

	"spinneret/api"
	"spinneret/compile"
	"spinneret/state"
)

func model(t *testing.T, s string) api.Model {
	t.Helper()
	m, e, at := compile.Compile(s)
	if e != api.OK {
		t.Fatalf("%s: error %d at %d", s, e, at)
	}
	return m
}

// P24.1.
func TestRun(t *testing.T) {
	a := "byte x; active [2] proctype p() { x = x + 1 }"
	three := "byte x; active proctype p() { if :: x = 1 :: x = 2 :: x = 3 fi; printf(\"%d\", x); assert x != 2; printf(\"end\") }"
	for _, c := range []struct {
		s     string
		picks []int
		want  string // pids, globals, text, error, over
	}{
		{a, nil, "[] [0]  0 false"}, {a, []int{1}, "[1] [1]  0 false"}, {a, []int{-1}, "[1] [1]  0 false"}, {a, []int{-2}, "[0] [1]  0 false"}, {a, []int{math.MinInt}, "[0] [1]  0 false"}, {a, []int{math.MaxInt}, "[1] [1]  0 false"},
		{a, []int{0, 0, 0, 0, 0}, "[0 1 1 0] [2]  0 true"}, {a, []int{0, 0, 0, 0}, "[0 1 1 0] [2]  0 true"}, {a, []int{0, 0, 0}, "[0 1 1] [2]  0 false"},
		{three, []int{2, 0, 0, 0, 0}, "[0 0 0 0 0] [3] 3end 0 true"}, {three, []int{4, 0, 0, 0}, "[0 0 0] [2] 2 50 false"}, {three, []int{-1, 7, 7}, "[0 0 0] [3] 3 0 false"},
		{"byte x; active proctype p() { x == 1 }", nil, "[] [0]  0 true"}, {"byte x; active proctype p() { x == 1 }", []int{5}, "[] [0]  0 true"},
		{"byte x; active proctype p() { x = 1 } never { 1; 0 }", []int{0, 0}, "[0] [1]  0 true"}, {"byte x; active proctype p() { x = 1 } never { assert x }", []int{0, 0}, "[-1] [0]  50 false"},
	} {
		m := model(t, c.s)
		r, e := Run(m, c.picks)
		var pids []int
		for _, v := range r.Moves {
			pids = append(pids, v.Pid)
		}
		got := fmt.Sprint(pids, " ", r.State.Globals, " ", r.Text, " ", int(r.Err), " ", r.Over)
		if e != api.OK || got != c.want {
			t.Errorf("%s %v: error %d, got %s, want %s", c.s, c.picks, e, got, c.want)
		}
		if state.Check(m, r.State) != api.OK {
			t.Errorf("%s: a state that may not be", c.s)
		}
		// P24.3
		picks, e, at := Picks(m, r.Moves)
		again, _ := Run(m, picks)
		if e != api.OK || at != 0 || len(picks) != len(r.Moves) || fmt.Sprint(again.Moves, again.State, again.Text, again.Err) != fmt.Sprint(r.Moves, r.State, r.Text, r.Err) {
			t.Errorf("%s: picks %v, error %d at %d, %v", c.s, picks, e, at, again)
		}
	}
	if r, e := Run(api.Model{}, nil); e != api.ErrModel || r.Moves != nil {
		t.Errorf("error %d", e)
	}
}

// P24.2.
func TestPicks(t *testing.T) {
	m := model(t, "byte x; active proctype p() { if :: x = 1 :: x = 2; assert 0 fi; x = 3 }")
	w := func(way int) api.Move {
		return api.Move{Pid: 0, Esc: -1, Way: way, With: -1, WithEsc: -1, WithWay: -1, Claim: -1}
	}
	still := w(-1)
	still.Pid = -1
	for _, c := range []struct {
		l    []api.Move
		want string
	}{
		{nil, "[] 0 0"}, {[]api.Move{w(0), w(0)}, "[0 0] 0 0"}, {[]api.Move{w(1), w(0)}, "[1 0] 0 0"}, {[]api.Move{w(1), w(0), w(0)}, "[] 43 1"}, {[]api.Move{w(2)}, "[] 43 0"}, {[]api.Move{w(0), w(1)}, "[] 43 1"}, {[]api.Move{w(0), w(0), w(-1), still}, "[] 43 3"}, {[]api.Move{w(0), w(0), w(-1)}, "[0 0 0] 0 0"},
	} {
		picks, e, at := Picks(m, c.l)
		if got := fmt.Sprint(picks, " ", int(e), " ", at); strings.TrimSpace(got) != c.want {
			t.Errorf("%v: got %s, want %s", c.l, got, c.want)
		}
	}
	if p, e, at := Picks(api.Model{}, []api.Move{still}); p != nil || e != api.ErrModel || at != 0 {
		t.Errorf("error %d at %d", e, at)
	}
}
