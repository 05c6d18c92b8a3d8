package step

import (
	"fmt"
	"strings"
	"testing"

	"spinneret/api"
	"spinneret/compile"
	"spinneret/state"
)

func model(t *testing.T, s string) (api.Model, api.State) {
	t.Helper()
	m, e, at := compile.Compile(s)
	if e != api.OK {
		t.Fatalf("%s: error %d at %d", s, e, at)
	}
	st, _ := state.First(m)
	return m, st
}

// told are the steps: who, which way, with whom, and the error; or the globals, the places, who went last, who goes alone, what was printed.
func told(t *testing.T, m api.Model, s api.State) string {
	t.Helper()
	before := fmt.Sprint(s)
	l, e := Steps(m, s)
	if e != api.OK {
		t.Fatalf("error %d", e)
	}
	if fmt.Sprint(s) != before {
		t.Error("the state was changed")
	}
	var out []string
	for _, n := range l {
		v := n.Move
		o := fmt.Sprint(v.Pid, ":", v.Esc, ".", v.Way)
		if v.With >= 0 {
			o += fmt.Sprint("+", v.With, ":", v.WithEsc, ".", v.WithWay)
		}
		if v.Claim != -1 {
			o += "?"
		}
		if n.Err != 0 {
			if n.State.Globals != nil || n.State.Procs != nil || n.Text != "" {
				t.Error("a state beside an error")
			}
			out = append(out, fmt.Sprint(o, " !", int(n.Err)))
			continue
		}
		if e := state.Check(m, n.State); e != api.OK {
			t.Errorf("a state that may not be: %v", n.State)
		}
		var places []int
		for _, p := range n.State.Procs {
			places = append(places, p.Loc)
		}
		out = append(out, strings.TrimSpace(fmt.Sprint(o, " ", n.State.Globals, places, n.State.Last, n.State.Alone, " ", n.Text)))
	}
	return strings.Join(out, "; ")
}

// P16.1: the example of the document, along.
func TestExample(t *testing.T) {
	m, s := model(t, "byte x; active [2] proctype p() { x = x + 1 }")
	if got := told(t, m, s); got != "0:-1.0 [1] [1 0] 0 -1; 1:-1.0 [1] [0 1] 1 -1" {
		t.Errorf("got %s", got)
	}
	for _, want := range []string{"1:-1.0 [2] [1 1] 1 -1", "1:-1.-1 [2] [1] 1 -1", "0:-1.-1 [2] [] 0 -1", ""} {
		l, _ := Steps(m, s)
		s = l[0].State
		if got := told(t, m, s); got != want {
			t.Errorf("got %s, want %s", got, want)
		}
	}
	if stuck, e := Stuck(m, s); stuck || e != api.OK {
		t.Errorf("stuck, error %d", e)
	}
}

// P16.1: first steps.
func TestSteps(t *testing.T) {
	for s, want := range map[string]string{
		"byte x; active proctype p() { timeout; x = 1 }":                                                                        "0:-1.0 [0] [1] 0 -1",
		"byte x; active proctype p() { timeout; x = 1 } active proctype r() { x = 2 }":                                          "1:-1.0 [2] [0 1] 1 -1",
		"byte x; active proctype p() { if :: timeout :: x fi; x } active proctype r() { x || timeout; x }":                      "0:-1.0 [0] [1 0] 0 -1; 1:-1.0 [0] [0 1] 1 -1",
		"byte x; active proctype p() priority 2 { x = 1 } active proctype r() priority 3 { x = 2 }":                             "1:-1.0 [2] [0 1] 1 -1",
		"byte x; active proctype p() priority 2 { x = 1 } active proctype r() priority 3 { x }":                                 "0:-1.0 [1] [1 0] 0 -1",
		"byte x; active [2] proctype p() priority 2 { x = 1 } active proctype r() priority 1 { 1 }":                             "0:-1.0 [1] [1 0 0] 0 -1; 1:-1.0 [1] [0 1 0] 1 -1",
		"byte x; active proctype p() { atomic { x = 1; x = 2 } }":                                                               "0:-1.0 [1] [1] 0 0",
		"byte x; active proctype p() { atomic { x = 1 }; 1 }":                                                                   "0:-1.0 [1] [1] 0 -1",
		`byte x; active proctype p() { d_step { x = 1; printf("a%d", x); x++; printf("b") }; 1 }`:                               "0:-1.0 [2] [4] 0 -1 a1b",
		"byte x; active proctype p() { d_step { x = 1; x == 2; x = 3 } }":                                                       "0:-1.0 !53",
		"byte x; active proctype p() { d_step { x = 1; assert x == 2 } }":                                                       "0:-1.0 !50",
		"byte x; active proctype p() { d_step { x = 1; 1 / (x - 1); 1 } }":                                                      "0:-1.0 !48",
		"byte x; active proctype p() { d_step { x = 1; timeout; x = 2 } }":                                                      "0:-1.0 !53",
		"byte x; active proctype p() { d_step { x = 1; enabled(1); x = 2 } } active proctype r() { end: x }":                    "0:-1.0 !53",
		"byte x; active proctype p() { if :: enabled(1) -> 1 :: enabled(0) fi } active proctype r() { x = 1 }":                  "0:-1.0 [0] [1 0] 0 -1; 1:-1.0 [1] [0 1] 1 -1",
		"byte x; active proctype p() { d_step { x = 1; do :: 1 od } }":                                                          "0:-1.0 !53",
		"byte x; active proctype p() { d_step { x = 1; if :: x = 2 :: x = 3 fi; if :: 0 :: else fi; x = x + 5 }; 1 }":           "0:-1.0 [7] [4] 0 -1",
		"byte x; active proctype p() { d_step { do :: x == 100 -> break :: else -> x++ od; x = 0 }; 1 }":                        "0:-1.1 !53",
		"byte x; active proctype p() { d_step { do :: x == 99 -> break :: else -> x++ od; x = 7 }; 1 }":                         "0:-1.1 [7] [3] 0 -1",
		"byte x; active proctype p() { d_step { do :: x == 99 -> break :: else -> x++ od; x = 7; x = 8 }; 1 }":                  "0:-1.1 [8] [5] 0 -1",
		"byte x; active proctype p() { d_step { do :: x == 99 -> break :: else -> x++ od; x = 7; x = 8; x = 9 }; 1 }":           "0:-1.1 !53",
		"byte x; active proctype p() { assert x; 1 } active proctype r() { x = 1 / x }":                                         "0:-1.0 !50; 1:-1.0 !48",
		"byte x; chan z = [0] of { byte }; active proctype p() { z!5; 1 } active proctype r() { z?x; 1 }":                       "0:-1.0+1:-1.0 [5 1] [1 1] 0 -1",
		"byte x; chan z = [0] of { byte }; active proctype p() { z!5; 1 } active proctype r() { atomic { z?x; 1 } }":            "0:-1.0+1:-1.0 [5 1] [1 1] 0 1",
		"byte x; chan z = [0] of { byte }; active proctype p() { atomic { z!5; 1 } } active proctype r() { atomic { z?x; 1 } }": "0:-1.0+1:-1.0 [5 1] [1 1] 0 1",
		"byte x; chan z = [0] of { byte }; active proctype p() { atomic { z!5; 1 } } active proctype r() { z?x; 1 }":            "0:-1.0+1:-1.0 [5 1] [1 1] 0 0",
		"byte x; chan z = [0] of { byte }; active proctype p() { d_step { z!5; x++ }; 1 } active proctype r() { z?x; 1 }":       "0:-1.0+1:-1.0 [6 1] [2 1] 0 -1",
		"byte x; chan z = [0] of { byte }; active proctype p() { d_step { x = 1; z!5 }; 1 } active proctype r() { z?x; 1 }":     "0:-1.0 !53",
		"byte x; chan z = [0] of { byte }; active proctype p() { z!5; 1 } active proctype r() { d_step { z?x; x++ }; 1 }":       "0:-1.0+1:-1.0 [5 1] [1 1] 0 -1",
		"byte x = 1; active proctype p() { 0 unless x }":                                                                        "0:0.0 [1] [1] 0 -1",
	} {
		m, st := model(t, s)
		if got := told(t, m, st); got != want {
			t.Errorf("%s:\ngot  %s\nwant %s", s, got, want)
		}
	}
}

// P16.1: a process goes alone as long as it can; P16.3.
func TestAlone(t *testing.T) {
	m, s := model(t, "byte x; active proctype p() { atomic { x = 1; x == 2; x = 3 } } active proctype r() priority 7 { x == 1; x = 2 }")
	for _, want := range []string{"0:-1.0 [1] [1 0] 0 0", "1:-1.0 [1] [1 1] 1 -1", "1:-1.0 [2] [1 2] 1 -1", "1:-1.-1 [2] [1] 1 -1", "0:-1.0 [2] [2] 0 0", "0:-1.0 [3] [3] 0 -1"} {
		if got := told(t, m, s); got != want {
			t.Fatalf("got %s, want %s", got, want)
		}
		l, _ := Steps(m, s)
		s = l[0].State
	}
	m, s = model(t, "active [2] proctype p() { atomic { 1; 1 } }")
	s.Procs[1].Loc, s.Alone = 1, 1
	if got := told(t, m, s); got != "1:-1.0 [] [0 2] 1 -1" {
		t.Errorf("got %s", got)
	}
}

// P16.2.
func TestStuck(t *testing.T) {
	for s, want := range map[string]bool{
		"active proctype p() { 0 }": true, "active proctype p() { end: 0 }": false, "active proctype p() { 1 }": false, "active proctype p() { timeout }": false,
		"active proctype p() { end: 0 } active proctype r() { 0 }": true, "active proctype p() { 1 / 0 }": false, "active proctype p() provided (0) { 1 }": true, "active proctype p() { endwait: do :: 0 od }": false,
		"proctype p() { 1 } active proctype r() { progress: accept: 0 }": true,
	} {
		m, st := model(t, s)
		if stuck, e := Stuck(m, st); stuck != want || e != api.OK {
			t.Errorf("%s: %v, error %d", s, stuck, e)
		}
	}
	m, s := model(t, "active proctype p() { 1 } active proctype r() { 0 }")
	s.Procs[0].Loc = 1
	if stuck, _ := Stuck(m, s); !stuck {
		t.Error("one at its end, and one that waits")
	}
	m, s = model(t, "active proctype p() { 1 } active proctype r() { end: 0 }")
	s.Procs[0].Loc = 1
	if stuck, _ := Stuck(m, s); stuck {
		t.Error("one at its end, and one that may end")
	}
}

func TestInput(t *testing.T) {
	m, s := model(t, "active proctype p() { 1 }")
	bad := s
	bad.Last = -1
	for _, c := range []struct {
		m    api.Model
		s    api.State
		want api.Errno
	}{{api.Model{}, s, api.ErrModel}, {m, bad, api.ErrState}} {
		l, e1 := Steps(c.m, c.s)
		stuck, e2 := Stuck(c.m, c.s)
		if e1 != c.want || e2 != c.want || l != nil || stuck {
			t.Errorf("errors %d, %d", e1, e2)
		}
	}
}

// The process 0 goes alone, whatever the others could.
func TestAloneFirst(t *testing.T) {
	m, s := model(t, "byte x; active proctype p() { atomic { x = 1; x = 2 } } active proctype r() priority 9 { 1; 1 }")
	s.Procs[0].Loc, s.Alone = 1, 0
	if got := told(t, m, s); got != "0:-1.0 [2] [2 0] 0 -1" {
		t.Errorf("got %s", got)
	}
}
