package trail

import (
	"fmt"
	"math"
	"strings"
	"testing"

	"spinneret/api"
	"spinneret/compile"
	"spinneret/cycle"
	"spinneret/fair"
	"spinneret/search"
	"spinneret/state"
)

func model(t *testing.T, s string) api.Model {
	t.Helper()
	m, e, at := compile.Compile(s)
	if e != api.OK {
		t.Fatalf("%s: error %d at %d", s, e, at)
	}
	return m
}

func move(pid, way int) api.Move {
	return api.Move{Pid: pid, Esc: -1, Way: way, With: -1, WithEsc: -1, WithWay: -1, Claim: -1}
}

// P23.1.
func TestReplay(t *testing.T) {
	m := model(t, "byte x; active proctype p() { x = 1; x = 2; assert x == 3 }")
	for i, c := range []struct {
		l      []api.Move
		states string
		e      api.Errno
		at     int
	}{
		{nil, "0", api.OK, 0}, {[]api.Move{move(0, 0), move(0, 0)}, "0 1 2", api.OK, 0}, {[]api.Move{move(0, 0), move(0, 0), move(0, 0)}, "0 1 2", api.ErrAssert, 2},
		{[]api.Move{move(0, 0), move(0, 0), move(0, 0), move(9, 9)}, "0 1 2", api.ErrAssert, 2}, {[]api.Move{move(0, 0), move(0, 1)}, "", api.ErrTrail, 1}, {[]api.Move{move(1, 0)}, "", api.ErrTrail, 0}, {[]api.Move{move(-1, -1)}, "", api.ErrTrail, 0},
	} {
		l, e, at := Replay(m, c.l)
		var xs []string
		for _, s := range l {
			xs = append(xs, fmt.Sprint(s.Globals[0]))
		}
		if got := strings.Join(xs, " "); got != c.states || e != c.e || at != c.at {
			t.Errorf("%d: %s, error %d at %d", i, got, e, at)
		}
	}
	m = model(t, "byte x; active proctype p() { x = 1; x == 5 }")
	l, e, _ := Replay(m, []api.Move{move(0, 0), move(-1, -1), move(-1, -1)})
	if e != api.OK || len(l) != 4 || !state.Same(l[1], l[3]) {
		t.Errorf("standing still: error %d", e)
	}
	if &l[1].Globals[0] == &l[3].Globals[0] {
		t.Error("memory is shared")
	}
	m = model(t, "byte x; active proctype p() { x == 5 } never { 1; 0 }")
	still := move(-1, -1)
	if _, e, at := Replay(m, []api.Move{still}); e != api.ErrTrail || at != 0 {
		t.Errorf("error %d", e)
	}
	still.Claim = 0
	if l, e, at := Replay(m, []api.Move{still, still}); l != nil || e != api.ErrTrail || at != 1 {
		t.Errorf("error %d at %d", e, at)
	}
	if l, e, at := Replay(api.Model{}, []api.Move{still}); l != nil || e != api.ErrModel || at != 0 {
		t.Errorf("error %d at %d", e, at)
	}
}

// P23.2: what searches tell holds; with a field that is otherwise it doesn't.
func TestCheck(t *testing.T) {
	for _, s := range []string{
		"active proctype A() { skip }", "byte x; active [2] proctype A() { x++; assert(x < 2) }", "byte x; active proctype A() { x = 1; x == 3 }", "bit x; active proctype A() { x = 1 } never { do :: x == 0 :: x == 1 -> break od }",
		"bit x; active proctype A() { do :: x = 1; accept: x = 0 od } active proctype B() { x = 1 }", "byte x; active proctype A() { do :: x = 1; progress: x = 0 od }", "bit x; active proctype A() { do :: x = 1 - x od } active proctype B() { accept: x = 1 }",
	} {
		m := model(t, s)
		for _, o := range []api.Options{{Mode: 1}, {Mode: 1, Bfs: true}, {Mode: 1, States: 2}, {Mode: 2}, {Mode: 3}, {Mode: 2, Fair: true}, {Mode: 3, Fair: true}} {
			if o.States == 0 {
				o.States = 1000
			}
			o.Depth = 1000
			find := cycle.Find
			if o.Mode == api.ModeSafety {
				find = search.Find
			} else if o.Fair {
				find = fair.Find
			}
			f, e := find(m, o)
			if e != api.OK {
				continue
			}
			if e := Check(m, o, f); e != api.OK {
				t.Errorf("%s, %v: error %d", s, o, e)
			}
			changed(t, m, o, f)
		}
	}
	m := model(t, "active proctype A() { skip }")
	if e := Check(api.Model{}, api.Options{}, api.Found{}); e != api.ErrModel {
		t.Errorf("error %d", e)
	}
	if e := Check(m, api.Options{Mode: 77}, api.Found{Kind: api.FoundClean, Cycle: -1}); e != api.OK {
		t.Errorf("error %d", e)
	}
}

func changed(t *testing.T, m api.Model, o api.Options, f api.Found) {
	t.Helper()
	for i, change := range []func(f *api.Found){
		func(f *api.Found) { f.Kind = api.FoundReject }, func(f *api.Found) { f.Kind = 0 }, func(f *api.Found) { f.What = 5 }, func(f *api.Found) { f.At = 1 }, func(f *api.Found) { f.Err = api.ErrModel },
		func(f *api.Found) { f.Cycle = len(f.Trail) }, func(f *api.Found) { f.Cycle = -2 }, func(f *api.Found) { f.Trail = append(append([]api.Move{}, f.Trail...), move(9, 9)) },
	} {
		other := f
		change(&other)
		if e := Check(m, o, other); e != api.ErrTrail {
			t.Errorf("%v, change %d: error %d", f, i, e)
		}
	}
	if f.Kind != api.FoundError {
		return
	}
	if len(f.Trail) > 0 {
		other := f
		other.Trail = f.Trail[:len(f.Trail)-1]
		if e := Check(m, o, other); e != api.ErrTrail {
			t.Errorf("%v, one move less: error %d", f, e)
		}
	}
	for mode := range 5 {
		other := o
		other.Mode = mode
		if e := Check(m, other, f); mode != o.Mode && e != api.ErrTrail {
			t.Errorf("%v, mode %d: error %d", f, mode, e)
		}
	}
	if f.What == api.WhatEnd {
		o.Free = true
		if e := Check(m, o, f); e != api.ErrTrail {
			t.Errorf("%v, free: error %d", f, e)
		}
	}
}

// P23.2: lassos that are none.
func TestLasso(t *testing.T) {
	m := model(t, "byte x; active proctype A() { do :: x = 0; accept: x = 0 :: x = 0 od } active proctype B() { do :: x = 0 od }")
	a, b, a2 := move(0, 0), move(1, 0), move(0, 1)
	for i, c := range []struct {
		l          []api.Move
		cycle      int
		once, fair api.Errno
	}{
		{[]api.Move{a, a}, 0, api.OK, api.ErrTrail}, {[]api.Move{a, b, a, a}, 2, api.ErrTrail, api.ErrTrail}, {[]api.Move{a, b, a}, 0, api.OK, api.OK}, {[]api.Move{a2}, 0, api.ErrTrail, api.ErrTrail}, {[]api.Move{a, b, b}, 2, api.OK, api.ErrTrail}, {[]api.Move{b, b}, 0, api.ErrTrail, api.ErrTrail},
	} {
		f := api.Found{Kind: api.FoundError, What: api.WhatCycle, Trail: c.l, Cycle: c.cycle}
		if e := Check(m, api.Options{Mode: api.ModeAccept}, f); e != c.once {
			t.Errorf("%d: error %d", i, e)
		}
		if e := Check(m, api.Options{Mode: api.ModeAccept, Fair: true}, f); e != c.fair {
			t.Errorf("%d, fair: error %d", i, e)
		}
	}
	m = model(t, "active proctype A() { 1 } never { accept: do :: 1 od }")
	f := api.Found{Kind: api.FoundError, What: api.WhatCycle, Trail: []api.Move{move(0, 0)}}
	if e := Check(m, api.Options{Mode: api.ModeNp}, f); e != api.ErrTrail {
		t.Errorf("Np refuses: error %d", e)
	}
}

// P23.3, P23.5.
func TestText(t *testing.T) {
	f := api.Found{Kind: 2, What: 4, Err: 50, At: -7, States: 9, Steps: 12, Cycle: 1, Trail: []api.Move{move(0, 3), {Pid: 1, Esc: 2, Way: 3, With: 4, WithEsc: 5, WithWay: 6, Claim: math.MinInt64}}}
	text, e := Print(f)
	if want := "found 2 4 50 -7 9 12\nmove 0 -1 3 -1 -1 -1 -1\ncycle\nmove 1 2 3 4 5 6 -9223372036854775808\n"; text != want || e != api.OK {
		t.Errorf("error %d, %s", e, text)
	}
	again, e, at := Parse(text)
	if fmt.Sprint(again) != fmt.Sprint(f) || e != api.OK || at != 0 {
		t.Errorf("error %d, %v", e, again)
	}
	if text, e := Print(api.Found{Kind: api.FoundReject, Err: 9, At: 3, Cycle: -1}); text != "found 4 0 9 3 0 0\n" || e != api.OK {
		t.Errorf("error %d, %s", e, text)
	} else if f, e, _ := Parse(text); e != api.OK || f.Kind != api.FoundReject || f.At != 3 || f.Cycle != -1 {
		t.Errorf("error %d, %v", e, f)
	}
	if text, _ := Print(api.Found{Kind: 1, Cycle: -1, States: 9, Steps: 12}); text != "found 1 0 0 0 9 12\n" {
		t.Errorf("%s", text)
	}
	for _, f := range []api.Found{{}, {Kind: 5, Cycle: -1}, {Kind: -1, Cycle: -1}, {Kind: 1}, {Kind: 1, Cycle: -2}, {Kind: 2, Cycle: 1, Trail: []api.Move{{}}}} {
		if text, e := Print(f); text != "" || e != api.ErrInput {
			t.Errorf("%v: error %d", f, e)
		}
	}
	for i := range text {
		for _, other := range []string{text[:i], text[:i] + "0" + text[i:], text[:i] + " " + text[i:], text[:i] + "\n" + text[i:], text[:i] + text[i+1:]} {
			if f, e, _ := Parse(other); e == api.OK {
				if again, _ := Print(f); again != other {
					t.Errorf("%q is read as %q", other, again)
				}
			}
		}
	}
}

// P23.4.
func TestWrong(t *testing.T) {
	head := "found 1 0 0 0 9 12\n"
	one := "move 0 0 0 0 0 0 0\n"
	for s, at := range map[string]int{
		"": 0, "found 1 0 0 0 9 12": 0, "found 0 0 0 0 9 12\n": 0, "found 5 0 0 0 9 12\n": 0, "found 1 0 0 0 9\n": 0, "found 1 0 0 0 9 12 1\n": 0, "found  1 0 0 0 9 12\n": 0, "found 1 0 0 0 9 12 \n": 0, "found 1 0 0 -0 9 12\n": 0, "found 1 0 0 00 9 12\n": 0, "found 1 0 0 +1 9 12\n": 0, "found 1 0 0 9223372036854775808 9 12\n": 0,
		"\n": 0, one: 0, "cycle\n": 0, head + "\n": 19, head + head: 19, head + one + "x\n": 38, head + one + "move 0 0 0 0 0 0\n": 38, head + one + "move 0 0 0 0 0 0 0": 38, head + "cycle\n": 25, head + "cycle": 19, head + "cycle\ncycle\n" + one: 25, head + "cycle\n" + one + "cycle\n" + one: 44, head + "cycle \n" + one: 19, head + "cycle\nx\n": 25, head + "x": 19,
	} {
		f, e, got := Parse(s)
		if e != api.ErrTrail || got != at || f.Kind != 0 || f.Trail != nil || f.Cycle != 0 {
			t.Errorf("%q: error %d at %d, want %d", s, e, got, at)
		}
	}
}

// Errors that are none: a move that is gone, one that can't be; and a claim that is the first proctype.
func TestRunErrors(t *testing.T) {
	m := model(t, "active proctype A() { skip; assert 0 }")
	o := api.Options{Mode: api.ModeSafety}
	for i, c := range []struct {
		f    api.Found
		want api.Errno
	}{
		{api.Found{What: api.WhatRun, Trail: []api.Move{move(0, 0)}}, api.ErrTrail}, {api.Found{What: api.WhatRun, Err: api.ErrTrail, Trail: []api.Move{move(0, 7)}}, api.ErrTrail}, {api.Found{What: api.WhatRun, Err: api.ErrAssert, Trail: []api.Move{move(0, 0), move(0, 0)}}, api.OK},
		{api.Found{What: api.WhatRun, Err: api.ErrDivide, Trail: []api.Move{move(0, 0), move(0, 0)}}, api.ErrTrail}, {api.Found{What: api.WhatRun, Err: api.ErrAssert, Trail: []api.Move{move(0, 0), move(0, 0), move(0, 0)}}, api.ErrTrail}, {api.Found{What: api.WhatEnd, Trail: []api.Move{move(0, 0), move(0, 0)}}, api.ErrTrail}, {api.Found{What: api.WhatEnd, Trail: []api.Move{move(0, 0)}}, api.ErrTrail}, {api.Found{What: api.WhatClaim, Trail: []api.Move{move(0, 0)}}, api.ErrTrail}, {api.Found{What: 0}, api.ErrTrail}, {api.Found{What: api.WhatCycle}, api.ErrTrail},
	} {
		c.f.Kind, c.f.Cycle = api.FoundError, -1
		if e := Check(m, o, c.f); e != c.want {
			t.Errorf("%d: error %d", i, e)
		}
	}
	m = model(t, "never { 0 } active proctype A() { 0 }")
	if _, e, _ := Replay(m, []api.Move{move(-1, -1)}); e != api.ErrTrail {
		t.Errorf("error %d", e)
	}
}
