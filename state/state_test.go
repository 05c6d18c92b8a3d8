package state

import (
	"fmt"
	"strings"
	"testing"

	"spinneret/api"
	"spinneret/compile"
)

func model(t *testing.T, s string) api.Model {
	t.Helper()
	m, e, at := compile.Compile(s)
	if e != api.OK {
		t.Fatalf("%s: error %d at %d", s, e, at)
	}
	return m
}

const source = "byte g = 3; short h = -2; chan q[2] = [2] of { byte, short }; proctype p(byte a; short b) { int c = -7; g; a } active [2] proctype r() priority 4 { bit d; d; g } never { g; h }"

// full is a state with messages and a process more.
func full(t *testing.T, m api.Model) api.State {
	t.Helper()
	s, e := First(m)
	if e != api.OK {
		t.Fatalf("error %d", e)
	}
	p, e := Begin(m, 0, []int64{300, -70000})
	if e != api.OK {
		t.Fatalf("error %d", e)
	}
	s.Procs = append(s.Procs, p)
	s.Chans[1].Queue = []api.Message{{1, -5}, {255, 7}}
	s.Last, s.Alone, s.Claim = 15, 2, 1
	return s
}

// P12.1, P12.2.
func TestFirst(t *testing.T) {
	m := model(t, source)
	s, e := First(m)
	if got := fmt.Sprint(e, s); got != "0 {[3 -2 1 2] [{0 []} {0 []}] [{1 0 4 [0]} {1 0 4 [0]}] 0 -1 0}" {
		t.Errorf("got %s", got)
	}
	s.Globals[0], s.Procs[0].Frame[0] = 9, 1
	if m.Init[0] != 3 || m.Procs[1].Init[0] != 0 || s.Procs[1].Frame[0] != 0 {
		t.Error("memory is shared")
	}
	p, e := Begin(m, 0, []int64{300, -70000})
	if got := fmt.Sprint(e, p); got != "0 {0 0 1 [44 -4464 -7]}" {
		t.Errorf("got %s", got)
	}
	m2 := model(t, "active proctype p(byte a) { byte b = 4; a }")
	if s, _ := First(m2); fmt.Sprint(s) != "{[] [] [{0 0 1 [0 4]}] 0 -1 -1}" {
		t.Errorf("got %v", s)
	}
	for _, typ := range []int{-1, 2, 3} {
		if p, e := Begin(m, typ, nil); e != api.ErrInput || p.Frame != nil {
			t.Errorf("type %d: error %d", typ, e)
		}
	}
	for _, args := range [][]int64{nil, {1}, {1, 2, 3}} {
		if _, e := Begin(m, 0, args); e != api.ErrInput {
			t.Errorf("%v: error %d", args, e)
		}
	}
}

// P12.3.
func TestCheck(t *testing.T) {
	m := model(t, source)
	for i, change := range []func(s *api.State){
		func(s *api.State) { s.Globals = s.Globals[1:] }, func(s *api.State) { s.Globals[0] = 256 }, func(s *api.State) { s.Globals[1] = 32768 },
		func(s *api.State) { s.Chans[0].Shape = 1 }, func(s *api.State) { s.Chans[0].Shape = -1 }, func(s *api.State) { s.Chans = make([]api.Chan, 33) },
		func(s *api.State) { s.Chans[1].Queue = append(s.Chans[1].Queue, api.Message{1, 1}) }, func(s *api.State) { s.Chans[1].Queue[0] = api.Message{1} }, func(s *api.State) { s.Chans[1].Queue[0][0] = -1 },
		func(s *api.State) { s.Procs[0].Type = 2 }, func(s *api.State) { s.Procs[0].Type = 3 }, func(s *api.State) { s.Procs[0].Type = -1 }, func(s *api.State) { s.Procs[0].Loc = 3 }, func(s *api.State) { s.Procs[0].Loc = -1 },
		func(s *api.State) { s.Procs[0].Prio = 1 }, func(s *api.State) { s.Procs[0].Frame = nil }, func(s *api.State) { s.Procs[0].Frame[0] = 2 },
		func(s *api.State) {
			for len(s.Procs) < 17 {
				s.Procs = append(s.Procs, s.Procs[0])
			}
		},
		func(s *api.State) { s.Last = -1 }, func(s *api.State) { s.Last = 16 }, func(s *api.State) { s.Alone = 3 }, func(s *api.State) { s.Alone = -2 }, func(s *api.State) { s.Claim = -1 }, func(s *api.State) { s.Claim = 3 },
	} {
		s := full(t, m)
		if e := Check(m, s); e != api.OK {
			t.Fatalf("error %d", e)
		}
		change(&s)
		if e := Check(m, s); e != api.ErrState {
			t.Errorf("%d: error %d", i, e)
		}
		if text, e := Encode(m, s); e != api.ErrState || text != "" {
			t.Errorf("%d: error %d, %s", i, e, text)
		}
	}
	m = model(t, "init { 1 }")
	s, _ := First(m)
	s.Claim = 0
	if e := Check(m, s); e != api.ErrState {
		t.Errorf("a claim's place: error %d", e)
	}
}

// P12.4.
func TestCopy(t *testing.T) {
	m := model(t, source)
	for i, change := range []func(s *api.State){
		func(s *api.State) { s.Globals[0]++ }, func(s *api.State) { s.Globals = nil }, func(s *api.State) { s.Chans[0].Shape++ }, func(s *api.State) { s.Chans = s.Chans[1:] }, func(s *api.State) { s.Chans[1].Queue[1][1]++ },
		func(s *api.State) { s.Chans[1].Queue[0] = nil }, func(s *api.State) { s.Chans[1].Queue = nil }, func(s *api.State) { s.Procs[1].Type = 9 }, func(s *api.State) { s.Procs[1].Loc++ }, func(s *api.State) { s.Procs[1].Prio++ },
		func(s *api.State) { s.Procs[2].Frame[2]++ }, func(s *api.State) { s.Procs = s.Procs[:2] }, func(s *api.State) { s.Last++ }, func(s *api.State) { s.Alone++ }, func(s *api.State) { s.Claim++ },
	} {
		a := full(t, m)
		b := Copy(a)
		if !Same(a, b) || !Same(a, full(t, m)) {
			t.Fatal("a copy isn't the same")
		}
		change(&b)
		if Same(a, b) || Same(b, a) {
			t.Errorf("%d: the same", i)
		}
		if !Same(a, full(t, m)) {
			t.Errorf("%d: memory is shared", i)
		}
	}
	if !Same(api.State{}, api.State{Globals: []int64{}, Chans: []api.Chan{}, Procs: []api.Process{}}) {
		t.Error("nil and no elements")
	}
}

// P12.5, P12.6, P12.7.
func TestText(t *testing.T) {
	m := model(t, "byte x = 3; active [2] proctype p() { end: x == 9 }")
	s, _ := First(m)
	if text, e := Encode(m, s); text != "3,0,2,0,0,0,0,0,-1,-1," || e != api.OK {
		t.Errorf("error %d, %s", e, text)
	}
	for _, text := range []string{"03,0,2,0,0,0,0,0,-1,-1,", "3,0,2,0,0,0,0,0,-1,-1", "", ",", "3,0,2,0,0,0,0,0,-1,-1,,", "3,0,2,0,0,0,0,0,-1,-1,0,", "3,0,2,0,0,0,0,-0,-1,-1,", "+3,0,2,0,0,0,0,0,-1,-1,", "3,0,2,0,0,0,0,0,-1,", "256,0,2,0,0,0,0,0,-1,-1,",
		"3,1,2,0,0,0,0,0,-1,-1,", "3,0,3,0,0,0,0,0,-1,-1,", "3,0,2,1,0,0,0,0,-1,-1,", "3,0,2,0,9,0,0,0,-1,-1,", "3,0,2,0,0,0,0,0,2,-1,", "3,0,2,0,0,0,0,0,-1,0,", "3,0,2,0,0,0,0,0,-1,99999999999999999999,", "3,-1,2,0,0,0,0,0,-1,-1,", "3,0,99999999999,", "3 ,0,2,0,0,0,0,0,-1,-1,", "a"} {
		if s, e := Decode(m, text); e != api.ErrState || s.Globals != nil {
			t.Errorf("%s: error %d", text, e)
		}
	}
	m = model(t, source)
	a := full(t, m)
	text, e := Encode(m, a)
	if want := "3,-2,1,2,2,0,0,0,2,1,-5,255,7,3,1,0,0,1,0,0,0,0,44,-4464,-7,15,2,1,"; e != api.OK || text != want {
		t.Errorf("error %d, %s", e, text)
	}
	b, e := Decode(m, text)
	if e != api.OK || !Same(a, b) {
		t.Errorf("error %d, %v", e, b)
	}
	for i := range text {
		for _, other := range []string{text[:i], text[:i] + "0" + text[i:], text[:i] + "1" + text[i:], text[:i] + "," + text[i:], text[:i] + "-" + text[i:]} {
			if s, e := Decode(m, other); e == api.OK {
				if again, _ := Encode(m, s); again != other {
					t.Errorf("%s is read as %s", other, again)
				}
			} else if e != api.ErrState {
				t.Errorf("%s: error %d", other, e)
			}
		}
	}
	if _, e := Decode(m, strings.Repeat("1,", 100000)); e != api.ErrState {
		t.Errorf("error %d", e)
	}
}

// All answer ErrModel ahead of all else.
func TestModel(t *testing.T) {
	var m api.Model
	if _, e := First(m); e != api.ErrModel {
		t.Error("First")
	}
	if _, e := Begin(m, -1, nil); e != api.ErrModel {
		t.Error("Begin")
	}
	if Check(m, api.State{}) != api.ErrModel {
		t.Error("Check")
	}
	if _, e := Encode(m, api.State{}); e != api.ErrModel {
		t.Error("Encode")
	}
	if _, e := Decode(m, "x"); e != api.ErrModel {
		t.Error("Decode")
	}
}

// As much as there may be; and a claim that is the first proctype.
func TestMost(t *testing.T) {
	m := model(t, "never { 1; 1 } byte x; chan q = [16] of { byte }; proctype p(byte a) { a } init { 1 }")
	if m.Claim != 0 {
		t.Fatalf("claim %d", m.Claim)
	}
	s, e := First(m)
	if e != api.OK || s.Claim != 0 || len(s.Procs) != 1 || s.Procs[0].Type != 2 {
		t.Fatalf("error %d, %v", e, s)
	}
	for len(s.Chans) < api.MaxChans {
		s.Chans = append(s.Chans, api.Chan{})
	}
	for len(s.Procs) < api.MaxProcs {
		p, _ := Begin(m, 1, []int64{int64(len(s.Procs))})
		s.Procs = append(s.Procs, p)
	}
	for range api.MaxRoom {
		s.Chans[3].Queue = append(s.Chans[3].Queue, api.Message{7})
	}
	for claim, want := range map[int]api.Errno{-1: api.ErrState, 0: api.OK, 2: api.OK, 3: api.ErrState} {
		s.Claim = claim
		text, e := Encode(m, s)
		if e != want || Check(m, s) != want {
			t.Errorf("claim at %d: error %d", claim, e)
		}
		if back, e := Decode(m, text); want == api.OK && (e != api.OK || !Same(back, s)) {
			t.Errorf("error %d, %v", e, back)
		}
	}
	s.Claim = 0
	if _, e := Begin(m, 0, nil); e != api.ErrInput {
		t.Errorf("a claim begins: error %d", e)
	}
	more := Copy(s)
	more.Chans = append(more.Chans, api.Chan{})
	if Check(m, more) != api.ErrState {
		t.Error("33 channels")
	}
	more = Copy(s)
	more.Chans[3].Queue = append(more.Chans[3].Queue, api.Message{7})
	if Check(m, more) != api.ErrState {
		t.Error("17 messages")
	}
}
