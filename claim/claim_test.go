package claim

import (
	"fmt"
	"strings"
	"testing"

	"spinneret/api"
	"spinneret/compile"
	"spinneret/good"
	"spinneret/state"
	"spinneret/step"
)

func model(t *testing.T, s string) (api.Model, api.State) {
	t.Helper()
	m, e, at := compile.Compile(s)
	if e != api.OK {
		t.Fatalf("%s: error %d at %d", s, e, at)
	}
	st, _ := state.First(m)
	return m, st
}

func told(t *testing.T, m api.Model, s api.State) string {
	t.Helper()
	before := fmt.Sprint(s)
	l, e := Steps(m, s)
	if e != api.OK {
		t.Fatalf("error %d", e)
	}
	var out []string
	for i, n := range l {
		o := fmt.Sprint(n.Move.Pid, ".", n.Move.Way, " c", n.Move.Claim)
		if n.Err != api.OK {
			if n.Move.Pid == -1 && n.Move != (api.Move{Pid: -1, Esc: -1, Way: -1, With: -1, WithEsc: -1, WithWay: -1, Claim: n.Move.Claim}) {
				t.Errorf("standing still: %v", n.Move)
			}
			if n.State.Procs != nil || n.State.Globals != nil {
				t.Error("a state beside an error")
			}
			out = append(out, fmt.Sprint(o, " !", int(n.Err)))
			continue
		}
		if n.Move.Pid == -1 && n.Move != (api.Move{Pid: -1, Esc: -1, Way: -1, With: -1, WithEsc: -1, WithWay: -1, Claim: n.Move.Claim}) {
			t.Errorf("standing still: %v", n.Move)
		}
		out = append(out, fmt.Sprint(o, " ", n.State.Globals, ">", n.State.Claim))
		for _, other := range l[i+1:] {
			if len(n.State.Globals) > 0 && len(other.State.Globals) > 0 && &n.State.Globals[0] == &other.State.Globals[0] {
				t.Error("memory is shared")
			}
		}
		if len(n.State.Globals) > 0 && &n.State.Globals[0] == &s.Globals[0] {
			t.Error("memory is shared with the state")
		}
	}
	if fmt.Sprint(s) != before {
		t.Error("the state was changed")
	}
	return strings.Join(out, "; ")
}

// P17.1.
func TestSteps(t *testing.T) {
	head := "byte x, y = 1; active [2] proctype p() { x = x + 1 } never { "
	for s, want := range map[string]string{
		"x":                            "",
		"do :: skip od":                "0.0 c0 [1 1]>0; 1.0 c0 [1 1]>0",
		"if :: y :: x :: 1 fi":         "0.0 c0 [1 1]>1; 1.0 c0 [1 1]>1; 0.0 c2 [1 1]>1; 1.0 c2 [1 1]>1",
		"if :: x :: else fi":           "0.0 c1 [1 1]>1; 1.0 c1 [1 1]>1",
		"if :: y :: else fi":           "0.0 c0 [1 1]>1; 1.0 c0 [1 1]>1",
		"if :: y / x :: else fi":       "-1.-1 c0 !48",
		"if :: y / x :: y fi":          "-1.-1 c0 !48; 0.0 c1 [1 1]>1; 1.0 c1 [1 1]>1",
		"assert x":                     "-1.-1 c0 !50",
		"assert y / x":                 "-1.-1 c0 !48",
		"assert y":                     "0.0 c0 [1 1]>1; 1.0 c0 [1 1]>1",
		"timeout":                      "",
		"enabled(1)":                   "0.0 c0 [1 1]>1; 1.0 c0 [1 1]>1",
		"enabled(2)":                   "",
		"_last == 0 && _nr_pr == 2; x": "0.0 c0 [1 1]>1; 1.0 c0 [1 1]>1",
	} {
		m, st := model(t, head+s+" }")
		if got := told(t, m, st); got != want {
			t.Errorf("%s: got %s, want %s", s, got, want)
		}
	}
	m, st := model(t, "byte x; active proctype p() { assert x } active proctype r() { x = 2 } never { if :: 1 :: 2 -> 0 fi }")
	if got := told(t, m, st); got != "0.0 c0 !50; 1.0 c0 [2]>1; 0.0 c1 !50; 1.0 c1 [2]>2" && got != "0.0 c0 !50; 1.0 c0 [2]>2; 0.0 c1 !50; 1.0 c1 [2]>1" {
		t.Errorf("got %s", got)
	}
	m, st = model(t, "byte x = 4; active proctype p() { x == 1 } never { 1; do :: x :: 2 od }")
	if got := told(t, m, st); got != "-1.-1 c0 [4]>1" {
		t.Errorf("got %s", got)
	}
	st.Claim = 1
	if got := told(t, m, st); got != "-1.-1 c0 [4]>1; -1.-1 c1 [4]>1" {
		t.Errorf("got %s", got)
	}
	m, st = model(t, "byte x = 4; active proctype p() { x == 1 }")
	if got := told(t, m, st); got != "" {
		t.Errorf("got %s", got)
	}
	m, st = model(t, "byte x = 4; active proctype p() { x = 1 }")
	if got := told(t, m, st); got != "0.0 c-1 [1]>-1" {
		t.Errorf("got %s", got)
	}
}

// P17.2.
func TestEnds(t *testing.T) {
	for s, want := range map[string]string{
		"active proctype p() { 1 } never { 1 }":                                      "false false",
		"active proctype p() { accept: 1 } never { 1 }":                              "false true",
		"active proctype p() { 1 } never { accept: 1 }":                              "false true",
		"active proctype p() { 1 } proctype q() { accept: 1 }":                       "false false",
		"active proctype p() { progress: end: 1; accept: 1 } never { 1; accept: 1 }": "false false",
	} {
		m, st := model(t, s)
		e, e1 := Ended(m, st)
		a, e2 := Accepts(m, st)
		if got := fmt.Sprint(e, a); got != want || e1 != api.OK || e2 != api.OK {
			t.Errorf("%s: got %s", s, got)
		}
	}
	m, st := model(t, "active proctype p() { 1 } never { 1 }")
	st.Claim = 1
	if ended, _ := Ended(m, st); !ended {
		t.Error("not ended")
	}
	m, st = model(t, "active proctype p() { 1 }")
	if ended, _ := Ended(m, st); ended {
		t.Error("ended without a claim")
	}
}

// P17.3, P17.4.
func TestNp(t *testing.T) {
	m, _ := model(t, "byte x, a[2]; chan q = [1] of { byte }; active proctype p() { byte y; L: a[x] = 1; q?<y>; printf(\"a%d\", q?[y]); { progress: x } unless { y } }")
	n, e := Np(m)
	if e != api.OK {
		t.Fatalf("error %d", e)
	}
	if e, part, at := good.Check(n); e != api.OK {
		t.Errorf("error %d, %d, %d", e, part, at)
	}
	x := len(m.Exprs)
	if len(n.Exprs) != x+1 || fmt.Sprint(n.Exprs[x]) != fmt.Sprint(api.Expr{Op: api.XNp, A: -1, B: -1, C: -1}) || n.Claim != 1 {
		t.Errorf("%v", n.Exprs[x])
	}
	want := fmt.Sprint("{np 0 [] [] [{[{{8 -1 -1 0 [] [] } 0 0} {{1 ", x, " -1 0 [] [] } 1 0}] [] false false false false false} {[{{1 ", x, " -1 0 [] [] } 1 0}] [] false false false true false} {[] [] false false false false false}] 0 2 0 1 -1}")
	if got := fmt.Sprint(n.Procs[1]); got != want {
		t.Errorf("got %s, want %s", got, want)
	}
	n.Claim, n.Exprs, n.Procs = -1, n.Exprs[:x], n.Procs[:1]
	before := fmt.Sprint(m)
	if fmt.Sprint(n) != before {
		t.Error("the rest isn't the same")
	}
	n.Globals[0].Bits, n.Init[0], n.Chans[0], n.Shapes[0].Fields[0].Bits = 9, 9, 9, 9
	for i := range n.Exprs {
		n.Exprs[i].Op = 0
		for j := range n.Exprs[i].Args {
			n.Exprs[i].Args[j], n.Exprs[i].Match[j] = 99, 99
		}
		for j := range n.Exprs[i].V.Dims {
			n.Exprs[i].V.Dims[j].I = 99
		}
	}
	p := n.Procs[0]
	p.Frame[0].Bits, p.Init[0] = 9, 9
	for i := range p.Locs {
		for _, l := range append([][]api.Trans{p.Locs[i].Out}, p.Locs[i].Esc...) {
			for j := range l {
				l[j].To = 99
				for k := range l[j].S.Args {
					l[j].S.Args[k] = 99
				}
				for k := range l[j].S.Match {
					l[j].S.Match[k] = 99
				}
			}
		}
		p.Locs[i].Atomic = true
	}
	if fmt.Sprint(m) != before {
		t.Error("memory is shared")
	}
	m, _ = model(t, "active proctype p() { 1 } never { 1 }")
	if _, e := Np(m); e != api.ErrMode {
		t.Errorf("a claim: error %d", e)
	}
	m, _ = model(t, "active proctype p() { 1 }")
	full := m
	for len(full.Procs) < api.MaxTypes {
		full.Procs = append(full.Procs, m.Procs[0])
		full.Procs[len(full.Procs)-1].Active = 0
	}
	if n, e := Np(full); e != api.ErrFull || n.Procs != nil {
		t.Errorf("types: error %d", e)
	}
	full = m
	for len(full.Exprs) < api.MaxExprs {
		full.Exprs = append(full.Exprs, api.Expr{Op: api.XPid, A: -1, B: -1, C: -1})
	}
	if _, e := Np(full); e != api.ErrFull {
		t.Errorf("expressions: error %d", e)
	}
	if _, e := Np(api.Model{}); e != api.ErrModel {
		t.Errorf("error %d", e)
	}
}

func TestInput(t *testing.T) {
	m, s := model(t, "active proctype p() { 1 } never { 1 }")
	bad := s
	bad.Claim = -1
	for _, c := range []struct {
		m    api.Model
		s    api.State
		want api.Errno
	}{{api.Model{}, s, api.ErrModel}, {m, bad, api.ErrState}} {
		l, e1 := Steps(c.m, c.s)
		_, e2 := Ended(c.m, c.s)
		_, e3 := Accepts(c.m, c.s)
		if e1 != c.want || e2 != c.want || e3 != c.want || l != nil {
			t.Errorf("errors %d, %d, %d", e1, e2, e3)
		}
	}
	// Without a claim the steps are those of layer 16.
	m, s = model(t, "byte x; active proctype p() { if :: x = 1 :: x = 2 fi }")
	a, _ := Steps(m, s)
	b, _ := step.Steps(m, s)
	if fmt.Sprint(a) != fmt.Sprint(b) || len(a) != 2 {
		t.Errorf("%v, %v", a, b)
	}
}

// A claim that is the first proctype.
func TestFirstClaim(t *testing.T) {
	m, s := model(t, "never { accept: x; 0 } byte x = 1; active proctype p() { x = 0 }")
	if m.Claim != 0 {
		t.Fatalf("claim %d", m.Claim)
	}
	if got := told(t, m, s); got != "0.0 c0 [0]>1" {
		t.Errorf("got %s", got)
	}
	if accepts, e := Accepts(m, s); !accepts || e != api.OK {
		t.Errorf("error %d", e)
	}
	s.Claim = 2
	if ended, e := Ended(m, s); !ended || e != api.OK {
		t.Errorf("error %d", e)
	}
	if _, e := Np(m); e != api.ErrMode {
		t.Errorf("error %d", e)
	}
}
