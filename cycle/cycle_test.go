package cycle

import (
	"fmt"
	"testing"

	"spinneret/api"
	"spinneret/claim"
	"spinneret/compile"
	"spinneret/state"
)

func model(t *testing.T, s string) api.Model {
	t.Helper()
	m, e, at := compile.Compile(s)
	if e != api.OK {
		t.Fatalf("%s: error %d at %d", s, e, at)
	}
	return m
}

func options(mode int, reduce bool) api.Options {
	return api.Options{Mode: mode, Reduce: reduce, States: 5000, Depth: 5000}
}

// kind is what a search comes to; a lasso is gone along.
func kind(t *testing.T, m api.Model, o api.Options) int {
	t.Helper()
	f, e := Find(m, o)
	if e != api.OK {
		t.Fatalf("error %d", e)
	}
	if f.States < 1 || f.States > o.States || f.Steps < 0 || f.Err != 0 || f.At != 0 {
		t.Errorf("%v", f)
	}
	if f.Kind != api.FoundError {
		if f.What != 0 || len(f.Trail) > 0 || f.Cycle != -1 {
			t.Errorf("%v", f)
		}
		return f.Kind
	}
	searched := m
	if o.Mode == api.ModeNp {
		searched, _ = claim.Np(m)
	}
	if f.What != api.WhatCycle || f.Cycle < 0 || f.Cycle >= len(f.Trail) {
		t.Fatalf("%v", f)
	}
	s, _ := state.First(searched)
	l := []api.State{s}
	for _, v := range f.Trail {
		steps, _ := Steps(searched, s)
		found := false
		for _, n := range steps {
			if n.Move == v {
				s, found = n.State, true
				break
			}
		}
		if !found {
			t.Fatalf("a move can't be gone: %v", v)
		}
		l = append(l, s)
	}
	accepted := false
	for _, s := range l[f.Cycle:] {
		a, _ := claim.Accepts(searched, s)
		accepted = accepted || a
	}
	if !state.Same(s, l[f.Cycle]) || !accepted {
		t.Errorf("no accepted lasso: %v", f)
	}
	return f.Kind
}

// P21.1.
func TestCheck(t *testing.T) {
	m, last, never := model(t, "active proctype p() { 1 }"), model(t, "active proctype p() { _last == 0 }"), model(t, "active proctype p() { 1 } never { 1 }")
	for i, c := range []struct {
		m    api.Model
		o    api.Options
		want api.Errno
	}{
		{m, options(2, true), api.OK}, {m, options(3, true), api.OK}, {m, api.Options{Mode: 2, States: api.MaxStates, Depth: api.MaxDepth}, api.OK}, {m, api.Options{Mode: 2, States: 1, Depth: 1}, api.OK}, {m, api.Options{Mode: 2, States: api.MaxStates + 1, Depth: 1}, api.ErrInput}, {m, api.Options{Mode: 2, States: 1}, api.ErrInput}, {api.Model{}, api.Options{}, api.ErrModel}, {m, api.Options{Mode: 2, States: 0, Depth: 1}, api.ErrInput}, {m, api.Options{Mode: 9, States: 1, Depth: 20001}, api.ErrInput},
		{m, options(1, false), api.ErrMode}, {m, options(4, false), api.ErrMode}, {m, api.Options{Mode: 2, States: 1, Depth: 1, Bfs: true}, api.ErrMode}, {m, api.Options{Mode: 2, States: 1, Depth: 1, Fair: true}, api.ErrMode}, {m, api.Options{Mode: 2, States: 1, Depth: 1, Free: true}, api.ErrMode},
		{last, options(2, true), api.ErrMode}, {last, options(2, false), api.OK}, {never, options(2, false), api.OK}, {never, options(3, false), api.ErrMode}, {never, options(2, true), api.ErrMode},
	} {
		if e := Check(c.m, c.o); e != c.want {
			t.Errorf("%d: error %d", i, e)
		}
		if f, e := Find(c.m, c.o); e != c.want || e != api.OK && f.Kind != 0 {
			t.Errorf("%d: error %d, %v", i, e, f)
		}
	}
	full := m
	for len(full.Procs) < api.MaxTypes {
		full.Procs = append(full.Procs, m.Procs[0])
		full.Procs[len(full.Procs)-1].Active = 0
	}
	if e := Check(full, options(3, false)); e != api.ErrFull {
		t.Errorf("error %d", e)
	}
}

// P21.2.
func TestSteps(t *testing.T) {
	for s, want := range map[string]string{
		"byte x; active proctype p() { x = 1 }":                                  "[0]",
		"byte x; active proctype p() { x == 1 }":                                 "[-1]",
		"byte x; active proctype p() { if :: x = 1 :: 1 / x :: x = 2 fi }":       "[0 0]",
		"byte x; active proctype p() { 1 / x }":                                  "[]",
		"never { 0 } byte x; active proctype p() { x == 1 }":                     "[]",
		"byte x; active proctype p() { x == 1 } never { 0 }":                     "[]",
		"byte x; active proctype p() { x == 1 } never { 1 }":                     "[-1]",
		"byte x; active proctype p() { x = 1 } never { if :: assert x :: 1 fi }": "[0]",
	} {
		m := model(t, s)
		st, _ := state.First(m)
		l, e := Steps(m, st)
		pids := []int{}
		for _, n := range l {
			pids = append(pids, n.Move.Pid)
			if n.Move.Pid == -1 && m.Claim < 0 && (!state.Same(n.State, st) || n.Move != (api.Move{Pid: -1, Esc: -1, Way: -1, With: -1, WithEsc: -1, WithWay: -1, Claim: -1}) || &n.State.Globals[0] == &st.Globals[0]) {
				t.Errorf("%s: %v", s, n)
			}
		}
		if got := fmt.Sprint(pids); got != want || e != api.OK {
			t.Errorf("%s: error %d, %s", s, e, got)
		}
	}
	m := model(t, "active proctype p() { 1 }")
	if _, e := Steps(m, api.State{}); e != api.ErrState {
		t.Errorf("error %d", e)
	}
	if _, e := Steps(api.Model{}, api.State{}); e != api.ErrModel {
		t.Errorf("error %d", e)
	}
}

// P21.3, P21.4.
func TestFind(t *testing.T) {
	for s, want := range map[string][2]int{ // accept, np
		"bit x; active proctype A() { do :: x = 1; accept: x = 0 od }":                                                 {api.FoundError, api.FoundError},
		"bit x; active proctype A() { do :: x = 1; x = 0 od }":                                                         {api.FoundClean, api.FoundError},
		"bit x; active proctype A() { do :: x = 1; progress: x = 0 od }":                                               {api.FoundClean, api.FoundClean},
		"bit x; active proctype A() { do :: x = 1 - x od } active proctype B() { accept: x = 1 }":                      {api.FoundError, api.FoundError},
		"byte x; active proctype A() { do :: x = 1; accept: x = 2; x = 3; x = 0 od }":                                  {api.FoundError, api.FoundError},
		"byte x; active proctype A() { if :: x = 1; x == 9 :: x = 2; do :: x = 2; accept: x = 3 od fi }":               {api.FoundError, api.FoundError},
		"byte x; active proctype A() { do :: x = 1; accept: if :: x = 2; x == 9 :: x = 3; x = 0 fi od }":               {api.FoundError, api.FoundError},
		"byte x; active proctype A() { if :: x = 1; progress: x == 9 :: x = 2; do :: x = 3 :: x = 4; L: x = 5 od fi }": {api.FoundClean, api.FoundError},
		"active proctype A() { 1 }":                                            {api.FoundClean, api.FoundError},
		"active proctype A() { accept: 0 }":                                    {api.FoundError, api.FoundError},
		"active proctype A() { accept: 1; progress: 0 }":                       {api.FoundClean, api.FoundClean},
		"byte x; active proctype A() { accept: x = 1; do :: x = 2; x = 3 od }": {api.FoundClean, api.FoundError},
		"byte x; active proctype A() { accept: 1 / x }":                        {api.FoundClean, api.FoundClean},
		"byte x; active proctype A() { do :: x < 5 -> x++ :: x == 5 -> x = 2 od } active proctype B() { x == 4; accept: x == 1 }":                         {api.FoundError, api.FoundError},
		"byte x; active proctype A() { do :: if :: x = 1 :: x = 2; progress: x = 3 fi od }":                                                               {api.FoundClean, api.FoundError},
		"byte x; active proctype A() { progress: do :: x = 1 :: x = 2 od }":                                                                               {api.FoundClean, api.FoundClean},
		"byte x; active proctype A() { byte i; do :: i < 3 -> i++ :: i == 3 -> i = 0; x = 1 - x od } active proctype B() { do :: x -> accept: x = 0 od }": {api.FoundError, api.FoundError},
		"byte x; active [2] proctype A() { byte i; do :: i < 3 -> i++ :: i == 3 -> i = 0; progress: i = 0 od }":                                           {api.FoundClean, api.FoundClean},
	} {
		m := model(t, s)
		for i, mode := range []int{api.ModeAccept, api.ModeNp} {
			for _, reduce := range []bool{false, true} {
				if got := kind(t, m, options(mode, reduce)); got != want[i] {
					t.Errorf("%s: mode %d, reduced %v: %d", s, mode, reduce, got)
				}
			}
		}
	}
	for s, want := range map[string]int{
		"byte x; active proctype A() { do :: x = 1 - x od } never { do :: 1 :: x -> break od; accept: do :: x == 1 od }":          api.FoundClean,
		"byte x; active proctype A() { do :: x = 1 - x :: x = x od } never { do :: 1 :: x -> break od; accept: do :: x == 1 od }": api.FoundError,
		"byte x; active proctype A() { x = 1 } never { do :: 1 :: x -> break od; accept: do :: x == 1 od }":                       api.FoundError,
		"byte x; active proctype A() { x = 1 } never { accept: do :: x == 0 od }":                                                 api.FoundClean,
	} {
		if got := kind(t, model(t, s), options(api.ModeAccept, false)); got != want {
			t.Errorf("%s: %d", s, got)
		}
	}
}

// P21.3: limits.
func TestLimits(t *testing.T) {
	m := model(t, "byte x; active proctype A() { x = 1; x = 2; x = 3 }") // five states in a row; the last one stands still
	for _, c := range []struct{ states, depth, want int }{{5, 5, api.FoundClean}, {4, 5, api.FoundLimit}, {5, 4, api.FoundLimit}, {1, 1, api.FoundLimit}} {
		o := api.Options{Mode: api.ModeAccept, States: c.states, Depth: c.depth}
		if got := kind(t, m, o); got != c.want {
			t.Errorf("%v: %d", c, got)
		}
	}
	m = model(t, "byte x; active proctype A() { do :: x = 1; accept: x = 0 od }")
	if got := kind(t, m, api.Options{Mode: api.ModeAccept, States: 3, Depth: 3}); got != api.FoundError {
		t.Errorf("%d", got)
	}
}

// P21.4: less is looked at where the processes have much of their own.
func TestReduced(t *testing.T) {
	m := model(t, "byte g; active [3] proctype A() { byte x; x = 1; x = 2; x = 3; x = 4; g++; accept: 0 }")
	for _, mode := range []int{api.ModeAccept, api.ModeNp} {
		whole, _ := Find(m, options(mode, false))
		reduced, _ := Find(m, options(mode, true))
		if whole.Kind != api.FoundError || reduced.Kind != api.FoundError {
			t.Errorf("%v, %v", whole, reduced)
		}
	}
	m = model(t, "byte g; active [3] proctype A() { byte x; x = 1; x = 2; x = 3; x = 4; g++; 0 }")
	whole, _ := Find(m, options(api.ModeAccept, false))
	reduced, _ := Find(m, options(api.ModeAccept, true))
	if whole.Kind != api.FoundClean || reduced.Kind != api.FoundClean || 2*reduced.States > whole.States {
		t.Errorf("%d states, reduced %d", whole.States, reduced.States)
	}
}
