package chart

import (
	"strings"
	"testing"

	"spinneret/api"
	"spinneret/compile"
	"spinneret/cycle"
	"spinneret/sim"
	"spinneret/state"
)

func model(t *testing.T, s string) api.Model {
	t.Helper()
	m, e, at := compile.Compile(s)
	if e != api.OK {
		t.Fatalf("%s: error %d at %d", s, e, at)
	}
	return m
}

// drawn is the chart of a run by picks, its lines parted by |.
func drawn(t *testing.T, s string, picks ...int) string {
	t.Helper()
	m := model(t, s)
	r, e := sim.Run(m, picks)
	if e != api.OK {
		t.Fatalf("error %d", e)
	}
	text, e, at := Draw(m, r.Moves)
	if e != api.OK || at != 0 {
		t.Fatalf("error %d at %d", e, at)
	}
	// P26.2
	rows := 1 + len(r.Moves)
	if strings.Count(text, "\n") != rows {
		t.Errorf("%d rows of %d moves", strings.Count(text, "\n"), len(r.Moves))
	}
	return strings.ReplaceAll(text, "\n", ";")
}

// P26.1.
func TestDraw(t *testing.T) {
	for _, c := range []struct {
		s     string
		picks []int
		want  string
	}{
		{"chan c = [0] of { byte }; active proctype a() { c ! 1 } active proctype b() { byte x; c ? x }", []int{0, 0, 0}, "        p0          p1;0       0>1-------->0>1;1       |           1>x;2       1>x;"},
		{"chan c = [0] of { byte }; active proctype b() { byte x; c ? x } active proctype a() { c ! 1 }", []int{0, 0, 0}, "        p0          p1;0       0>1<--------0>1;1       |           1>x;2       1>x;"},
		{"chan c = [0] of { byte }; active proctype b() { byte x; c ? x } active proctype n() { 0 } active proctype a() { c ! 1 }", []int{0}, "        p0          p1          p2;0       0>1<--------------------0>1;"},
		{"active proctype a() { skip; assert 0 }", []int{0, 0}, "        p0;0       0>1;1       1>?         error50;"},
		{"active [2] proctype a() { skip; assert 0 }", []int{1, 1}, "        p0          p1;0       |           0>1;1       |           1>?         error50;"},
		{"active proctype a() { skip } never { assert 0 }", []int{0}, "        p0;0       claim?      error50;"},
		{"active proctype a() { end: 0 } never { 1; 1 }", []int{0, 0}, "        p0;0       stands;1       stands;"},
		{"proctype b() { 1 } active proctype a() { run b() }", []int{0, 1, 0}, "        p0          p1;0       0>1;1       |           0>1;2       |           1>x;"},
		{"active proctype a() { skip }", nil, "        p0;"},
		{"proctype a() { skip } init { 1 }", []int{0, 0}, "        p0;0       0>1;1       1>x;"},
	} {
		if got := drawn(t, c.s, c.picks...); got != c.want {
			t.Errorf("%s:\ngot  %s\nwant %s", c.s, got, c.want)
		}
	}
}

func TestNumbers(t *testing.T) {
	body := strings.TrimSuffix(strings.Repeat("1;", 120), ";")
	picks := make([]int, 120)
	rows := strings.Split(drawn(t, "chan c = [0] of { byte }; active proctype a() { byte x; "+body+"; c?x }"+" active proctype b() { byte x; "+body+" }", picks...), ";")
	if rows[1] != "0       0>1         |" || rows[120] != "119     119>120     |" {
		t.Errorf("%q, %q", rows[1], rows[120])
	}
}

// A lasso whose system stands still; what can't be gone; no process at all.
func TestOthers(t *testing.T) {
	m := model(t, "active proctype a() { accept: 0 }")
	f, _ := cycle.Find(m, api.Options{Mode: api.ModeAccept, States: 9, Depth: 9})
	if text, e, _ := Draw(m, f.Trail); e != api.OK || text != "        p0\n0       stands\n" {
		t.Errorf("error %d, %s", e, text)
	}
	if text, e, at := Draw(m, []api.Move{f.Trail[0], {Pid: 7}}); e != api.ErrTrail || at != 1 || text != "" {
		t.Errorf("error %d at %d", e, at)
	}
	if text, e, at := Draw(api.Model{}, f.Trail); e != api.ErrModel || at != 0 || text != "" {
		t.Errorf("error %d at %d", e, at)
	}
	m.Procs[0].Active = 0
	if text, e, _ := Draw(m, nil); e != api.OK || text != "\n" {
		t.Errorf("error %d, %q", e, text)
	}
	s, _ := state.First(m)
	if text, e, _ := Draw(m, f.Trail); e != api.OK || text != "\n0       stands\n" || len(s.Procs) != 0 {
		t.Errorf("error %d, %q", e, text)
	}
}
