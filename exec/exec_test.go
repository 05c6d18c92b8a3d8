package exec

import (
	"fmt"
	"strings"
	"testing"

	"spinneret/api"
	"spinneret/compile"
	"spinneret/state"
)

func first(t *testing.T, s string) api.Env {
	t.Helper()
	m, e, at := compile.Compile(s)
	if e != api.OK {
		t.Fatalf("%s: error %d at %d", s, e, at)
	}
	st, _ := state.First(m)
	return api.Env{M: m, S: st}
}

// told are a process's ways: the list and the place, with whom, and an error.
func told(t *testing.T, e api.Env) string {
	t.Helper()
	l, err := Ways(e)
	if err != api.OK {
		return fmt.Sprint("error ", int(err))
	}
	var out []string
	for _, w := range l {
		s := fmt.Sprint(w.Esc, w.Way)
		if w.With >= 0 {
			s += fmt.Sprint("+", w.With, ":", w.WithEsc, w.WithWay)
		} else if w.With != -1 || w.WithEsc != -1 || w.WithWay != -1 {
			s += "?"
		}
		if w.Err != 0 {
			s += fmt.Sprint("!", int(w.Err))
		}
		out = append(out, s)
	}
	return strings.Join(out, " ")
}

const head = "byte x = 1, y, a[2] = 1; chan q = [1] of { byte, byte }; chan f = [2] of { byte }; chan none; proctype p(byte w) { w } active proctype r() { byte i; "

// P15.1: the ways of one process by itself.
func TestWays(t *testing.T) {
	for s, want := range map[string]string{
		"if :: x :: y :: x == 1 fi":       "-1 0 -1 2",
		"x == 2":                          "",
		"x / y":                           "-1 0!48",
		"if :: x :: else fi":              "-1 0",
		"if :: y :: else fi":              "-1 1",
		"if :: y / y :: else fi":          "-1 0!48",
		"i = y":                           "-1 0",
		"i = 1 / y":                       "-1 0",
		"assert y":                        "-1 0",
		`printf("%d", 1 / y)`:             "-1 0",
		"skip":                            "-1 0",
		"i = run p(1 / y)":                "-1 0",
		"run p(3)":                        "-1 0",
		"q!1,2":                           "-1 0",
		"q!1":                             "-1 0!49",
		"none!1":                          "-1 0!49",
		"q!1/y,2":                         "-1 0",
		"q?x,y":                           "",
		"q?x":                             "-1 0!49",
		"none?x":                          "-1 0!49",
		"q?x,eval(1 / y)":                 "-1 0!48",
		"x unless y":                      "-1 0",
		"y unless x":                      "0 0",
		"x unless { x == 1 }":             "0 0",
		"x unless { if :: y :: else fi }": "0 1",
		"x unless { y / y }":              "0 0!48",
		"{ y unless y } unless x":         "0 0",
		"{ x unless x } unless y":         "1 0",
		"chan c = [1] of { bit }; 1":      "-1 0",
	} {
		if got := told(t, first(t, head+s+" }")); got != want {
			t.Errorf("%s: got %q, want %q", s, got, want)
		}
	}
	e := first(t, head+"if :: f?1 :: f??1 :: f?i :: f??<2> :: f?<eval(2)> :: f!1 fi }")
	for queue, want := range map[string]string{"": "-1 5", "1": "-1 0 -1 1 -1 2 -1 5", "2": "-1 2 -1 3 -1 4 -1 5", "2 1": "-1 1 -1 2 -1 3 -1 4", "1 2": "-1 0 -1 1 -1 2 -1 3"} {
		e.S.Chans[1].Queue = nil
		for _, n := range strings.Fields(queue) {
			e.S.Chans[1].Queue = append(e.S.Chans[1].Queue, api.Message{int64(n[0] - '0')})
		}
		if got := told(t, e); got != want {
			t.Errorf("%s: got %q, want %q", queue, got, want)
		}
	}
}

// P15.1: ends, what is provided, and how many there may be.
func TestEnds(t *testing.T) {
	e := first(t, "active [2] proctype p() { 1 }")
	e.S.Procs[0].Loc, e.S.Procs[1].Loc = 1, 1
	if got := told(t, e); got != "" {
		t.Errorf("got %q", got)
	}
	e.Pid = 1
	if got := told(t, e); got != "-1 -1" {
		t.Errorf("got %q", got)
	}
	for provided, want := range map[string]string{"x": "-1 0", "y": "", "x == 2": "", "1 / y": "-1 -1!48"} {
		if got := told(t, first(t, "byte x = 1, y; active proctype p() provided ("+provided+") { 1 }")); got != want {
			t.Errorf("%s: got %q", provided, got)
		}
	}
	e = first(t, "active proctype p() provided (0) { 1 }")
	e.S.Procs[0].Loc = 1
	if got := told(t, e); got != "-1 -1" {
		t.Errorf("got %q", got)
	}
	e = first(t, "proctype q() { 1 } active proctype r() { byte i; if :: run q() :: i = run q() :: 1 fi }")
	for len(e.S.Procs) < 15 {
		e.S.Procs = append(e.S.Procs, api.Process{Prio: 1})
	}
	if got := told(t, e); got != "-1 0 -1 1 -1 2" {
		t.Errorf("15 processes: got %q", got)
	}
	e.S.Procs = append(e.S.Procs, api.Process{Prio: 1})
	if got := told(t, e); got != "-1 2" {
		t.Errorf("16 processes: got %q", got)
	}
	e = first(t, "active proctype r() { chan c = [1] of { bit }; 1 }")
	e.S.Chans = make([]api.Chan, 31)
	if got := told(t, e); got != "-1 0" {
		t.Errorf("31 channels: got %q", got)
	}
	e.S.Chans = make([]api.Chan, 32)
	if got := told(t, e); got != "" {
		t.Errorf("32 channels: got %q", got)
	}
	e = first(t, "active proctype r() { if :: timeout :: enabled(1) fi }")
	e.Timeout, e.Able = true, []bool{false, true}
	if got := told(t, e); got != "-1 0 -1 1" {
		t.Errorf("got %q", got)
	}
}

// P15.1: who meets whom.
func TestRendezvous(t *testing.T) {
	for s, want := range map[string]string{
		"z!1 | z?x":                      "-1 0+1:-1 0",
		"z!1 | z?1":                      "-1 0+1:-1 0",
		"z!1 | z?2":                      "",
		"z!257 | z?1":                    "-1 0+1:-1 0",
		"z!1 | z?eval(o)":                "-1 0+1:-1 0",
		"z!1 | z?eval(o / n)":            "",
		"z!1 | z??x":                     "-1 0+1:-1 0",
		"z!!1 | z?_":                     "-1 0+1:-1 0",
		"z!1 | z?<x>":                    "",
		"z!1 | z??<x>":                   "",
		"z!1 | z?x,x":                    "",
		"z!1,2 | z?x":                    "-1 0!49",
		"z!o / n | z?x":                  "-1 0!48",
		"z!o / n | n":                    "-1 0!48",
		"c[o / n]!1 | z?x":               "-1 0!48",
		"z!1 | c[2]?x":                   "-1 0+1:-1 0",
		"z!1 | c[n - 1]?x":               "",
		"z!1 | z?x | z?y":                "-1 0+1:-1 0 -1 0+2:-1 0",
		"z!1 | if :: z?x :: o :: z?1 fi": "-1 0+1:-1 0 -1 0+1:-1 2",
		"if :: z!1 :: z!2 fi | if :: z?2 :: z?x fi": "-1 0+1:-1 1 -1 1+1:-1 0 -1 1+1:-1 1",
		"if :: z!1 :: else fi | z?2":                "-1 1",
		"if :: z!1 :: else fi | z?x":                "-1 0+1:-1 0",
		"z!1 | z?x unless z?y":                      "-1 0+1:0 0",
		"z!1 | z?x unless n":                        "-1 0+1:-1 0",
		"z!1 | z?x unless o":                        "",
		"z!1 | z?x unless { if :: n :: else fi }":   "",
		"z!1 | z?x unless z!1":                      "-1 0+1:-1 0",
		"z!1 | z?x unless z!1,2":                    "",
		"z!1 | z?x unless c[5]!2":                   "",
		"z!1 | z?x unless n / n":                    "",
		"z!1 unless z!2 | z?x":                      "0 0+1:-1 0",
		"z!1 | o | z?x":                             "-1 0+2:-1 0",
		"z!1":                                       "",
		"z!1 | w?x":                                 "",
		"if :: z!1 :: z?x fi":                       "",
		"if :: z!1 :: z?x fi | if :: z!1 :: z?x fi": "-1 0+1:-1 1",
		"z!1 | z?eval(_pid)":                        "-1 0+1:-1 0",
		"z!o + o | z?eval(_pid) | z?eval(_pid)":     "-1 0+2:-1 0",
	} {
		src := "byte o = 1, n; chan z = [0] of { byte }; chan c[3]; chan w = [0] of { byte }; "
		for i, body := range strings.Split(s, " | ") {
			src += fmt.Sprintf("active proctype p%d() { byte x, y; %s } ", i, body)
		}
		e := first(t, src)
		e.S.Globals[5] = 1
		if got := told(t, e); got != want {
			t.Errorf("%s: got %q, want %q", s, got, want)
		}
	}
	for provided, want := range map[string]string{"1": "-1 0+1:-1 0", "0": "", "1 / 0": ""} {
		e := first(t, "byte n; chan z = [0] of { byte }; active proctype p() { z!1 } active proctype r() provided ("+provided+") { z?_ }")
		if got := told(t, e); got != want {
			t.Errorf("provided %s: got %q, want %q", provided, got, want)
		}
	}
}

// gone goes the first way of the process at hand.
func goneFirst(t *testing.T, e api.Env) (api.State, string, api.Errno) {
	t.Helper()
	l, err := Ways(e)
	if err != api.OK || len(l) == 0 {
		t.Fatalf("error %d, no way", err)
	}
	before := fmt.Sprint(e.S)
	s, text, err := Go(e, l[0])
	if fmt.Sprint(e.S) != before {
		t.Error("the state was changed")
	}
	if err == api.OK {
		if err := state.Check(e.M, s); err != api.OK {
			t.Errorf("a state that may not be: %v", s)
		}
	} else if s.Globals != nil || text != "" {
		t.Error("more beside an error")
	}
	return s, text, err
}

// P15.2: what a way does: globals, channels, processes; or the error.
func TestGo(t *testing.T) {
	for s, want := range map[string]string{
		"x":                          "[1 0 1 1 1 2 0] [{0 []} {1 [[5] [3]]}] [{1 1 1 [0]}]",
		"x = 257 + 5":                "[6 0 1 1 1 2 0] [{0 []} {1 [[5] [3]]}] [{1 1 1 [0]}]",
		"a[x] = _pid + 3":            "[1 0 1 3 1 2 0] [{0 []} {1 [[5] [3]]}] [{1 1 1 [0]}]",
		"a[2] = 1":                   "!47",
		"a[2] = 1 / y":               "!48",
		"assert x":                   "[1 0 1 1 1 2 0] [{0 []} {1 [[5] [3]]}] [{1 1 1 [0]}]",
		"assert y":                   "!50",
		"assert x / y":               "!48",
		"x / y":                      "!48",
		`printf("%d%c", x, 66)`:      "[1 0 1 1 1 2 0] [{0 []} {1 [[5] [3]]}] [{1 1 1 [0]}] 1B",
		`printf("%d", 1 / y)`:        "!48",
		"printm(x)":                  "[1 0 1 1 1 2 0] [{0 []} {1 [[5] [3]]}] [{1 1 1 [0]}] 1",
		"run p(258)":                 "[1 0 1 1 1 2 0] [{0 []} {1 [[5] [3]]}] [{1 1 1 [0]} {0 0 1 [2]}]",
		"run p(1 / y)":               "!48",
		"a[_nr_pr - 1] = run p(7)":   "[1 0 1 1 1 2 0] [{0 []} {1 [[5] [3]]}] [{1 1 1 [0]} {0 0 1 [7]}]",
		"a[_nr_pr] = run p(7)":       "!47",
		"chan c = [1] of { bit }; 1": "[1 0 1 1 1 2 0] [{0 []} {1 [[5] [3]]} {2 []}] [{1 1 1 [0 3]}]",
		"q!257,x":                    "[1 0 1 1 1 2 0] [{0 [[1 1]]} {1 [[5] [3]]}] [{1 1 1 [0]}]",
		"q!1 / y,x":                  "!48",
		"f?x":                        "[5 0 1 1 1 2 0] [{0 []} {1 [[3]]}] [{1 1 1 [0]}]",
		"f??3":                       "[1 0 1 1 1 2 0] [{0 []} {1 [[5]]}] [{1 1 1 [0]}]",
		"f?<i>":                      "[1 0 1 1 1 2 0] [{0 []} {1 [[5] [3]]}] [{1 1 1 [5]}]",
		"f??<3>":                     "[1 0 1 1 1 2 0] [{0 []} {1 [[5] [3]]}] [{1 1 1 [0]}]",
		"f?_":                        "[1 0 1 1 1 2 0] [{0 []} {1 [[3]]}] [{1 1 1 [0]}]",
		"f?a[len(f)]":                "[1 0 1 5 1 2 0] [{0 []} {1 [[3]]}] [{1 1 1 [0]}]",
		"f?a[x + 1]":                 "!47",
	} {
		e := first(t, strings.Replace(head, "chan f = [2]", "chan f = [3]", 1)+s+" }")
		e.S.Chans[1].Queue = []api.Message{{5}, {3}}
		e.S.Last = 7
		st, text, err := goneFirst(t, e)
		got := fmt.Sprint(st.Globals, " ", st.Chans, " ", st.Procs, " ", text)
		if err != api.OK {
			got = fmt.Sprint("!", int(err))
		} else if st.Last != 0 || st.Alone != -1 || st.Claim != -1 {
			t.Errorf("%s: last %d, alone %d, claim %d", s, st.Last, st.Alone, st.Claim)
		}
		if strings.TrimSpace(got) != want {
			t.Errorf("%s: got %s, want %s", s, got, want)
		}
	}
	e := first(t, head+"f!!4 }")
	e.S.Chans[1].Queue = []api.Message{{5}}
	if st, _, _ := goneFirst(t, e); fmt.Sprint(st.Chans[1].Queue) != "[[4] [5]]" {
		t.Errorf("sorted: %v", st.Chans)
	}
	// Of two numbers the second one's place is reckoned behind the first one.
	e = first(t, "byte k, b[3]; chan q = [1] of { byte, byte }; active proctype p() { q?k,b[k] }")
	e.S.Chans[0].Queue = []api.Message{{2, 9}}
	if st, _, _ := goneFirst(t, e); fmt.Sprint(st.Globals) != "[2 0 0 9 1]" {
		t.Errorf("in order: %v", st.Globals)
	}
	e = first(t, "byte k, b[3]; chan q = [0] of { byte, byte }; active proctype p() { q!2,300; 1 } active proctype r() { byte v; q?k,b[k]; v }")
	if st, _, _ := goneFirst(t, e); fmt.Sprint(st.Globals, st.Procs) != "[2 0 0 44 1] [{0 1 1 []} {1 1 1 [0]}]" {
		t.Errorf("handed over: %v", st)
	}
	e = first(t, "byte b[3]; chan q = [0] of { byte }; active proctype p() { q!2; 1 } active proctype r() { bit v; q?v; v }")
	if st, _, _ := goneFirst(t, e); fmt.Sprint(st.Procs) != "[{0 1 1 []} {1 1 1 [0]}]" {
		t.Errorf("handed over: %v", st)
	}
	e = first(t, "byte b[3]; chan q = [0] of { byte }; active proctype p() { q!2; 1 } active proctype r() { bit v; q?b[_pid + 2]; v }")
	if _, _, err := goneFirst(t, e); err != api.ErrIndex {
		t.Errorf("handed over: error %d", err)
	}
}

// P15.2: the end of a process, and ways that aren't.
func TestGoEnds(t *testing.T) {
	e := first(t, "active [2] proctype p() { 1 }")
	e.S.Procs[1].Loc, e.S.Alone, e.Pid = 1, 1, 1
	st, _, err := goneFirst(t, e)
	if err != api.OK || len(st.Procs) != 1 || st.Alone != -1 || st.Last != 1 {
		t.Errorf("error %d, %v", err, st)
	}
	e.S.Alone = 0
	if st, _, _ := goneFirst(t, e); st.Alone != 0 {
		t.Errorf("alone %d", st.Alone)
	}
	for _, w := range []api.Way{{}, {Esc: -1, Way: 0, With: -1, WithEsc: -1, WithWay: -1}, {Esc: -1, Way: -1, With: -1, WithEsc: -1, WithWay: -1, Err: 1}, {Esc: 5, Way: 5}} {
		if _, _, err := Go(e, w); err != api.ErrInput {
			t.Errorf("%v: error %d", w, err)
		}
	}
	e = first(t, "byte x; active proctype p() { 1 / x }")
	if _, _, err := Go(e, api.Way{Esc: -1, Way: 0, With: -1, WithEsc: -1, WithWay: -1}); err != api.ErrInput {
		t.Errorf("a way without its error: error %d", err)
	}
}

// P15.3.
func TestAble(t *testing.T) {
	e := first(t, "byte x; chan z = [0] of { byte }; active proctype a() { x == 1 } active proctype b() { z!1 } active proctype c() { z?_ } active proctype d() { timeout } active proctype f() { enabled(0) } active proctype g() { 1 / x }")
	able, err := Able(e.M, e.S)
	if err != api.OK || fmt.Sprint(able) != "[false true false false false true]" {
		t.Errorf("error %d, %v", err, able)
	}
}

func TestInput(t *testing.T) {
	good := first(t, "active proctype p() { 1 }")
	for i, c := range []struct {
		change func(e *api.Env)
		want   api.Errno
	}{{func(e *api.Env) { e.M.Procs, e.Pid = nil, 9 }, api.ErrModel}, {func(e *api.Env) { e.S.Last, e.Pid = 99, 9 }, api.ErrState}, {func(e *api.Env) { e.Pid = -1 }, api.ErrInput}, {func(e *api.Env) { e.Pid = 1 }, api.ErrInput}} {
		e := good
		c.change(&e)
		_, e1 := Ways(e)
		_, _, e2 := Go(e, api.Way{})
		if e1 != c.want || e2 != c.want {
			t.Errorf("%d: errors %d, %d", i, e1, e2)
		}
		if _, e3 := Able(e.M, e.S); c.want != api.ErrInput && e3 != c.want {
			t.Errorf("%d: error %d", i, e3)
		}
	}
}

// The process 0 receives, an escape is gone, a channel is full, and nothing is provided by the first expression.
func TestFirstOnes(t *testing.T) {
	e := first(t, "byte n; chan z = [0] of { byte }; active proctype r() { byte v; z?v; v } active proctype p() { z!7; 1 }")
	e.Pid = 1
	if got := told(t, e); got != "-1 0+0:-1 0" {
		t.Errorf("got %q", got)
	}
	if s, _, err := goneFirst(t, e); err != api.OK || fmt.Sprint(s.Procs) != "[{0 1 1 [7]} {1 1 1 []}]" || s.Last != 1 {
		t.Errorf("error %d, %v", err, s)
	}
	e = first(t, "byte n; chan z = [0] of { byte }; active proctype r() provided (n) { z?_ } active proctype p() { z!1 }")
	e.Pid = 1
	if got := told(t, e); got != "" {
		t.Errorf("got %q", got)
	}
	e = first(t, "byte x = 1; active proctype p() { x = 5 unless { x = 7; x = 8 } }")
	if s, _, err := goneFirst(t, e); err != api.OK || s.Globals[0] != 7 || s.Procs[0].Loc != 2 {
		t.Errorf("error %d, %v", err, s)
	}
	e = first(t, "byte x = 1; active proctype p() { { x == 2 unless x == 3 } unless { x == 1 -> x = 7 } }")
	if s, _, err := goneFirst(t, e); err != api.OK || s.Procs[0].Loc != 2 {
		t.Errorf("error %d, %v", err, s)
	}
	e = first(t, "chan q = [1] of { byte }; active proctype p() { q!1 } active proctype r() { q?_ }")
	e.S.Chans[0].Queue = []api.Message{{3}}
	if got := told(t, e); got != "" {
		t.Errorf("got %q", got)
	}
}
