package search

import (
	"fmt"
	"strings"
	"testing"

	"spinneret/api"
	"spinneret/claim"
	"spinneret/compile"
	"spinneret/state"
)

func model(t *testing.T, s string) api.Model {
	t.Helper()
	m, e, at := compile.Compile(s)
	if e != api.OK {
		t.Fatalf("%s: error %d at %d", s, e, at)
	}
	return m
}

func options(mode string) api.Options {
	return api.Options{Mode: api.ModeSafety, Bfs: strings.Contains(mode, "b"), Reduce: strings.Contains(mode, "r"), Free: strings.Contains(mode, "f"), States: 5000, Depth: 5000}
}

func told(t *testing.T, m api.Model, o api.Options) string {
	t.Helper()
	f, e := Find(m, o)
	if e != api.OK {
		return fmt.Sprint("error ", int(e))
	}
	if f.Cycle != -1 || f.At != 0 || f.Kind != api.FoundError && (len(f.Trail) > 0 || f.What != 0 || f.Err != 0) || f.What != api.WhatRun && f.Err != 0 {
		t.Errorf("%v", f)
	}
	follow(t, m, f)
	return fmt.Sprint(f.Kind, f.What, int(f.Err), " ", len(f.Trail), " moves, ", f.States, " states, ", f.Steps, " steps")
}

// follow goes along a trail.
func follow(t *testing.T, m api.Model, f api.Found) {
	t.Helper()
	s, _ := state.First(m)
	for i, v := range f.Trail {
		l, _ := claim.Steps(m, s)
		found := false
		for _, n := range l {
			if n.Move == v && !found {
				found = true
				if n.Err != api.OK && (i != len(f.Trail)-1 || n.Err != f.Err) {
					t.Errorf("move %d comes to error %d", i, n.Err)
				}
				s = n.State
			}
		}
		if !found {
			t.Fatalf("move %d can't be gone", i)
		}
	}
}

// P20.1.
func TestCheck(t *testing.T) {
	m := model(t, "active proctype p() { 1 }")
	last := model(t, "active proctype p() { _last == 0 }")
	for i, c := range []struct {
		m    api.Model
		o    api.Options
		want api.Errno
	}{
		{m, options(""), api.OK}, {m, options("brf"), api.OK}, {api.Model{}, api.Options{}, api.ErrModel},
		{m, api.Options{Mode: 1, States: 0, Depth: 1}, api.ErrInput}, {m, api.Options{Mode: 1, States: 20001, Depth: 1}, api.ErrInput}, {m, api.Options{Mode: 1, States: 1, Depth: 0}, api.ErrInput}, {m, api.Options{Mode: 9, States: 1, Depth: 20001}, api.ErrInput},
		{m, api.Options{Mode: 1, States: 20000, Depth: 20000}, api.OK}, {m, api.Options{Mode: 2, States: 1, Depth: 1}, api.ErrMode}, {m, api.Options{Mode: 3, States: 1, Depth: 1}, api.ErrMode}, {m, api.Options{Mode: 0, States: 1, Depth: 1}, api.ErrMode},
		{m, api.Options{Mode: 1, States: 1, Depth: 1, Fair: true}, api.ErrMode}, {last, options("r"), api.ErrMode}, {last, options(""), api.OK},
	} {
		if e := Check(c.m, c.o); e != c.want {
			t.Errorf("%d: error %d", i, e)
		}
		if f, e := Find(c.m, c.o); e != c.want || e != api.OK && (f.Kind != 0 || f.Cycle != 0) {
			t.Errorf("%d: error %d, %v", i, e, f)
		}
	}
}

// P20.2, P20.3, in the order depth first, breadth first.
func TestFind(t *testing.T) {
	for s, want := range map[string][2]string{
		"active proctype A() { skip }":                           {"1 0 0 0 moves, 3 states, 2 steps", "1 0 0 0 moves, 3 states, 2 steps"},
		"active proctype A() { assert(0) }":                      {"2 1 50 1 moves, 1 states, 1 steps", "2 1 50 1 moves, 1 states, 1 steps"},
		"byte x; active [2] proctype A() { x = x + 1 }":          {"1 0 0 0 moves, 9 states, 10 steps", "1 0 0 0 moves, 9 states, 10 steps"},
		"byte x; active [2] proctype A() { x++; assert(x < 2) }": {"2 1 50 4 moves, 4 states, 4 steps", "2 1 50 3 moves, 8 states, 8 steps"},
		"byte x; active proctype A() { x == 1 }":                 {"2 2 0 0 moves, 1 states, 0 steps", "2 2 0 0 moves, 1 states, 0 steps"},
		"byte x; active proctype A() { end: x == 1 }":            {"1 0 0 0 moves, 1 states, 0 steps", "1 0 0 0 moves, 1 states, 0 steps"},
		"chan c = [0] of { byte }; active proctype A() { c!1 } active proctype B() { byte v; c?v; assert(v == 1) }": {"1 0 0 0 moves, 5 states, 4 steps", "1 0 0 0 moves, 5 states, 4 steps"},
		"chan c = [0] of { byte }; active proctype A() { c!1 } active proctype B() { byte v; c?2; assert(v == 1) }": {"2 2 0 0 moves, 1 states, 0 steps", "2 2 0 0 moves, 1 states, 0 steps"},
		"bit x; active proctype A() { x = 1 } never { do :: x == 0 :: x == 1 -> break od }":                         {"2 3 0 2 moves, 3 states, 2 steps", "2 3 0 2 moves, 3 states, 2 steps"},
		"byte x; active proctype A() { if :: x = 1; x = 2; x == 9 :: x = 5; x == 6 fi }":                            {"2 2 0 2 moves, 3 states, 2 steps", "2 2 0 1 moves, 3 states, 2 steps"},
		"byte x; active proctype A() { do :: x < 3 -> x++ :: else -> x = 0 od }":                                    {"1 0 0 0 moves, 8 states, 8 steps", "1 0 0 0 moves, 8 states, 8 steps"},
		"active proctype A() { 0 } never { 1 }":                                                                     {"2 2 0 0 moves, 1 states, 0 steps", "2 2 0 0 moves, 1 states, 0 steps"},
		"active proctype A() { end: 0 } never { 1 }":                                                                {"2 3 0 1 moves, 2 states, 1 steps", "2 3 0 1 moves, 2 states, 1 steps"},
		"active proctype A() { 1 } never { goto a; a: skip; a2: 0 }":                                                {"1 0 0 0 moves, 2 states, 1 steps", "1 0 0 0 moves, 2 states, 1 steps"},
		"active proctype A() { 1 } never { assert 0 }":                                                              {"2 1 50 1 moves, 1 states, 1 steps", "2 1 50 1 moves, 1 states, 1 steps"},
	} {
		m := model(t, s)
		for i, mode := range []string{"", "b"} {
			if got := told(t, m, options(mode)); got != want[i] {
				t.Errorf("%s, %q:\ngot  %s\nwant %s", s, mode, got, want[i])
			}
		}
	}
	m := model(t, "byte x; active proctype A() { x == 1 }")
	for _, mode := range []string{"f", "bf"} {
		if got := told(t, m, options(mode)); !strings.HasPrefix(got, "1 0 0") {
			t.Errorf("free: %s", got)
		}
	}
}

// P20.3: limits, met just and not.
func TestLimits(t *testing.T) {
	m := model(t, "byte x; active proctype A() { x = 1; x = 2; x = 3 }") // five states in a row
	for _, c := range []struct {
		states, depth int
		want          string
	}{
		{5, 5, "1 0 0 0 moves, 5 states, 4 steps"}, {4, 5, "3 0 0 0 moves, 4 states, 4 steps"}, {5, 4, "3 0 0 0 moves, 4 states, 4 steps"}, {1, 1, "3 0 0 0 moves, 1 states, 1 steps"}, {5, 1, "3 0 0 0 moves, 1 states, 1 steps"},
	} {
		for _, mode := range []string{"", "b", "r", "br"} {
			o := options(mode)
			o.States, o.Depth = c.states, c.depth
			if got := told(t, m, o); got != c.want {
				t.Errorf("%q %v: got %s", mode, c, got)
			}
		}
	}
	// An error that is found ahead of the limit is told.
	m = model(t, "byte x; active proctype A() { x = 1; assert 0 }")
	for _, mode := range []string{"", "b"} {
		o := options(mode)
		o.States, o.Depth = 2, 2
		if got := told(t, m, o); got != "2 1 50 2 moves, 2 states, 2 steps" {
			t.Errorf("got %s", got)
		}
	}
}

// P20.3, P20.4: reduced searches look at less, and come to the same.
func TestReduced(t *testing.T) {
	m := model(t, "byte g; active [3] proctype A() { byte x; x = 1; x = 2; x = 3; g++ }")
	for _, mode := range []string{"", "b"} {
		whole, _ := Find(m, options(mode))
		reduced, _ := Find(m, options(mode+"r"))
		if whole.Kind != api.FoundClean || reduced.Kind != api.FoundClean || 2*reduced.States > whole.States {
			t.Errorf("%q: %v, %v", mode, whole, reduced)
		}
	}
	// A process that turns round by itself must not hide the other one's error.
	m = model(t, "byte g; active proctype A() { byte x; do :: x = 1 - x od } active proctype B() { g = 1; assert g == 0 }")
	for _, mode := range []string{"r", "br"} {
		if got := told(t, m, options(mode)); !strings.HasPrefix(got, "2 1 50") {
			t.Errorf("%q: %s", mode, got)
		}
	}
	m = model(t, "active proctype A() { byte x; x = 1; x = 1 / (x - 1) } active proctype B() { 0 }")
	for _, mode := range []string{"r", "br", "", "b"} {
		if got := told(t, m, options(mode)); !strings.HasPrefix(got, "2 1 48") {
			t.Errorf("%q: %s", mode, got)
		}
	}
}
