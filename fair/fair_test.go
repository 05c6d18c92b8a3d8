package fair

import (
	"fmt"
	"testing"

	"spinneret/api"
	"spinneret/claim"
	"spinneret/compile"
	"spinneret/cycle"
	"spinneret/state"
)

func model(t *testing.T, s string) api.Model {
	t.Helper()
	m, e, at := compile.Compile(s)
	if e != api.OK {
		t.Fatalf("%s: error %d at %d", s, e, at)
	}
	return m
}

func options(mode int) api.Options {
	return api.Options{Mode: mode, Fair: true, States: 5000, Depth: 5000}
}

// P22.1.
func TestCheck(t *testing.T) {
	m, never := model(t, "active proctype p() { 1 }"), model(t, "active proctype p() { 1 } never { 1 }")
	full := m
	for len(full.Procs) < api.MaxTypes {
		full.Procs = append(full.Procs, m.Procs[0])
		full.Procs[len(full.Procs)-1].Active = 0
	}
	for i, c := range []struct {
		m    api.Model
		o    api.Options
		want api.Errno
	}{
		{m, options(2), api.OK}, {m, options(3), api.OK}, {never, options(2), api.OK}, {never, options(3), api.ErrMode}, {full, options(3), api.ErrFull}, {full, options(2), api.OK}, {api.Model{}, api.Options{}, api.ErrModel},
		{m, api.Options{Mode: 2, States: 1, Depth: 1}, api.ErrMode}, {full, api.Options{Mode: 3, States: 1, Depth: 1}, api.ErrMode}, {full, api.Options{Mode: 3, States: 1, Depth: 1, Fair: true, Reduce: true}, api.ErrMode}, {m, api.Options{Mode: 2, States: 1, Depth: 1, Fair: true, Reduce: true}, api.ErrMode},
		{m, api.Options{Mode: 2, States: 0, Depth: 1}, api.ErrInput}, {m, api.Options{Mode: 1, States: 1, Depth: 0}, api.ErrInput}, {m, options(1), api.ErrMode}, {m, api.Options{Mode: 2, States: 1, Depth: 1, Fair: true, Bfs: true}, api.ErrMode}, {m, api.Options{Mode: 2, States: 1, Depth: 1, Fair: true, Free: true}, api.ErrMode},
	} {
		if e := Check(c.m, c.o); e != c.want {
			t.Errorf("%d: error %d", i, e)
		}
		if f, e := Find(c.m, c.o); e != c.want || e != api.OK && f.Kind != 0 {
			t.Errorf("%d: error %d, %v", i, e, f)
		}
	}
}

// P22.2.
func TestEnabled(t *testing.T) {
	for s, want := range map[string]string{
		"byte x; chan z = [0] of { byte }; active proctype a() { x == 1 } active proctype b() { z!1 } active proctype c() { z?_ } active proctype d() { timeout } active proctype e() { 1 / x } active proctype f() { 1 }": "[false true true false true true]",
		"active proctype a() priority 2 { 1 } active proctype b() { 1 }": "[true false]",
		"active proctype a() { 0 } active proctype b() { timeout }":      "[false true]",
		"active proctype a() { 0 }":                                      "[false]",
	} {
		m := model(t, s)
		st, _ := state.First(m)
		if got, e := Enabled(m, st); fmt.Sprint(got) != want || e != api.OK {
			t.Errorf("%s: error %d, %v", s, e, got)
		}
	}
	m := model(t, "active proctype p() { 1 }")
	if _, e := Enabled(m, api.State{}); e != api.ErrState {
		t.Errorf("error %d", e)
	}
	if _, e := Enabled(api.Model{}, api.State{}); e != api.ErrModel {
		t.Errorf("error %d", e)
	}
}

// run makes moves by the places of their steps.
func run(t *testing.T, m api.Model, picks ...int) []api.Move {
	t.Helper()
	s, _ := state.First(m)
	var out []api.Move
	for _, p := range picks {
		l, _ := cycle.Steps(m, s)
		out = append(out, l[p].Move)
		s = l[p].State
	}
	return out
}

// P22.3.
func TestIs(t *testing.T) {
	m := model(t, "byte x; active proctype A() { do :: x = 0 od } active proctype B() { do :: x = 0 od }")
	for _, c := range []struct {
		picks []int
		cycle int
		fair  bool
		e     api.Errno
	}{
		{[]int{0, 0}, 1, false, api.OK}, {[]int{0, 1, 0}, 1, true, api.OK}, {[]int{0, 0, 0}, 1, false, api.OK}, {[]int{1, 0, 1}, 1, true, api.OK}, {[]int{0, 1}, 0, false, api.ErrTrail}, {[]int{1, 0}, 0, true, api.OK}, {[]int{0, 1, 0}, 3, false, api.ErrTrail}, {[]int{0, 1, 0}, -1, false, api.ErrTrail}, {nil, 0, false, api.ErrTrail}, {[]int{0}, 0, false, api.OK},
	} {
		if got, e := Is(m, run(t, m, c.picks...), c.cycle); got != c.fair || e != c.e {
			t.Errorf("%v %d: %v, error %d", c.picks, c.cycle, got, e)
		}
	}
	l := run(t, m, 0, 0)
	l[0].Way = 5
	if _, e := Is(m, l, 1); e != api.ErrTrail {
		t.Errorf("error %d", e)
	}
	if _, e := Is(api.Model{}, nil, 9); e != api.ErrModel {
		t.Errorf("error %d", e)
	}
	// Who waits somewhere on the cycle needn't go; nor who stands still with all.
	m = model(t, "bit x; active proctype A() { do :: x = 1 :: x = 0 od } active proctype B() { do :: x -> x = x od }")
	if fair, e := Is(m, run(t, m, 0, 1, 0), 1); !fair || e != api.OK {
		t.Errorf("error %d", e)
	}
	m = model(t, "active proctype A() { 0 }")
	if fair, e := Is(m, run(t, m, 0), 0); !fair || e != api.OK {
		t.Errorf("error %d", e)
	}
	// Who receives goes, too.
	m = model(t, "chan z = [0] of { byte }; active proctype A() { do :: z!1 od } active proctype B() { do :: z?_ od }")
	if fair, e := Is(m, run(t, m, 0), 0); !fair || e != api.OK {
		t.Errorf("error %d", e)
	}
}

// P22.4, P22.5.
func TestFind(t *testing.T) {
	for s, want := range map[string][2]int{ // accept, np
		"bit x; active proctype A() { do :: x = 1 - x od } active proctype B() { accept: x = 1 }":                                                                                                          {api.FoundClean, api.FoundError},
		"bit x; active proctype A() { do :: x = 1; accept: x = 0 od }":                                                                                                                                     {api.FoundError, api.FoundError},
		"bit x; active proctype A() { do :: x = 1; x = 0 od }":                                                                                                                                             {api.FoundClean, api.FoundError},
		"bit x; active proctype A() { do :: x = 1; accept: x = 0 od } active proctype B() { x = 1 }":                                                                                                       {api.FoundError, api.FoundError},
		"bit x; active proctype A() { do :: x = 1; x == 1; accept: x = 0 :: x == 2 od } active proctype B() { do :: x == 0 -> progress: x == 0 od }":                                                       {api.FoundError, api.FoundError},
		"bit x; active proctype A() { do :: x = 1 - x od } active proctype B() { do :: x = 0; progress: x = 1 od }":                                                                                        {api.FoundClean, api.FoundClean},
		"bit x; active proctype A() { do :: x = 1 - x od } active proctype B() { do :: x -> progress: x = x od }":                                                                                          {api.FoundClean, api.FoundError},
		"bit x; active [3] proctype A() { do :: x = 1 - x; accept: x = x od }":                                                                                                                             {api.FoundError, api.FoundError},
		"byte x; active proctype A() { do :: x = 1; x = 2; accept: x = 0 :: goto accept2 od; accept2: x = 5; 0 }":                                                                                          {api.FoundError, api.FoundError},
		"byte x; active proctype A() { do :: x = 1; if :: x = 2; if :: x = 3; if :: x = 4; accept: x = 0 :: goto accept2 fi :: goto accept2 fi :: goto accept2 fi :: goto accept2 od; accept2: x = 5; 0 }": {api.FoundError, api.FoundError},
		"bit x; active proctype A() { accept: 0 }":                                                                                                                                                         {api.FoundError, api.FoundError},
		"bit x, y; active proctype A() { do :: y == 0 -> x = 1 - x od } active proctype B() { accept: x == 2 } active proctype C() { y = 1; 0 }":                                                           {api.FoundError, api.FoundError},
		"bit x, y; active proctype A() { do :: y == 0 -> accept: x = 1 - x od } active proctype C() { y = 1; 0 }":                                                                                          {api.FoundClean, api.FoundError},
	} {
		m := model(t, s)
		for i, mode := range []int{api.ModeAccept, api.ModeNp} {
			if got := kind(t, m, options(mode)); got != want[i] {
				t.Errorf("%s: mode %d: %d", s, mode, got)
			}
		}
	}
}

// kind is what a search comes to; a lasso is gone along, and held to be fair.
func kind(t *testing.T, m api.Model, o api.Options) int {
	t.Helper()
	f, e := Find(m, o)
	if e != api.OK {
		t.Fatalf("error %d", e)
	}
	if f.States < 1 || f.States > o.States || f.Steps < 0 || f.Err != 0 || f.At != 0 {
		t.Errorf("%v", f)
	}
	if f.Kind != api.FoundError {
		if f.What != 0 || len(f.Trail) > 0 || f.Cycle != -1 {
			t.Errorf("%v", f)
		}
		return f.Kind
	}
	if o.Mode == api.ModeNp {
		m, _ = claim.Np(m)
	}
	if fair, e := Is(m, f.Trail, f.Cycle); !fair || e != api.OK || f.What != api.WhatCycle {
		t.Errorf("error %d: %v", e, f)
	}
	s, _ := state.First(m)
	accepted := false
	for i, v := range f.Trail {
		if s, e = follow(m, s, v); e != api.OK {
			t.Fatalf("error %d", e)
		}
		a, _ := claim.Accepts(m, s)
		accepted = accepted || a && i >= f.Cycle
	}
	if !accepted {
		t.Errorf("not accepted: %v", f)
	}
	return f.Kind
}

func TestLimits(t *testing.T) {
	m := model(t, "byte x; active proctype A() { x = 1; x = 2; x = 3 }") // five states in a row
	for _, c := range []struct{ states, depth, want int }{{5, 5, api.FoundClean}, {4, 5, api.FoundLimit}, {5, 4, api.FoundLimit}, {1, 1, api.FoundLimit}} {
		if got := kind(t, m, api.Options{Mode: api.ModeAccept, Fair: true, States: c.states, Depth: c.depth}); got != c.want {
			t.Errorf("%v: %d", c, got)
		}
	}
}
