package expr

import (
	"fmt"
	"testing"

	"spinneret/api"
	"spinneret/compile"
	"spinneret/state"
)

const head = `byte g = 2, a[3], h; int big = 7; chan q = [2] of { byte, byte }; chan e = [1] of { bit }; chan z = [0] of { byte }; chan none;
typedef T { byte x; short y[2] } T t[2];
proctype p(byte w) { byte l[2]; progress: w; M: l[1]; here: w }
active proctype r() { byte i = 1, b[2]; `

// env is one in which the expression is that of the first statement of r (pid 0); pid 1 is a process of p at its second place.
func env(t *testing.T, x string) (api.Env, int) {
	t.Helper()
	m, e, at := compile.Compile(head + "assert " + x + " }")
	if e != api.OK {
		t.Fatalf("%s: error %d at %d", x, e, at-len(head))
	}
	s, _ := state.First(m)
	p, _ := state.Begin(m, 0, []int64{9})
	p.Loc = 1
	p.Frame[1], p.Frame[2] = 5, 6
	s.Procs = append(s.Procs, p)
	s.Globals[1], s.Globals[2], s.Globals[3] = 10, 20, 30
	s.Chans[0].Queue = []api.Message{{1, 2}, {3, 4}}
	s.Last = 4
	return api.Env{M: m, S: s, Able: []bool{false, true}}, m.Procs[1].Locs[0].Out[0].S.A
}

// P14.2.
func TestEval(t *testing.T) {
	for x, want := range map[string]string{
		"5": "5", "g": "2", "a[g]": "30", "a[3]": "!47", "a[-1]": "!47", "a[i]": "20", "b[i]": "0", "b[2]": "!47", "t[1].y[a[0]]": "!47", "t[1].y[1]": "0",
		"-g": "-2", "!g": "0", "~g": "-3", "7 / 0": "!48", "7 % (g - 2)": "!48", "7 / g": "3", "big << 29": "-536870912",
		"0 && 7 / 0": "0", "1 && 7 / 0": "!48", "1 || 7 / 0": "1", "0 || 7 / 0": "!48", "g && 5": "1", "g && 0": "0", "0 || 5": "1", "0 || 0": "0", "7 / 0 || 1": "!48",
		"(g -> 5 : 7 / 0)": "5", "(0 -> 7 / 0 : 6)": "6", "(1 -> 7 / 0 : 6)": "!48", "a[9] + 7 / 0": "!47", "a[7 / 0]": "!48", "p[1]:l[7 / 0]": "!48", "q?[a[7], _]": "1", "q??[_, eval(a[7])]": "!47", "7 / 0 + a[9]": "!48", "-(7 / 0)": "!48",
		"len(q)": "2", "full(q)": "1", "nfull(q)": "0", "empty(q)": "0", "nempty(q)": "1", "len(e)": "0", "full(e)": "0", "nfull(e)": "1", "empty(e)": "1", "nempty(e)": "0", "full(z)": "1", "nfull(z)": "0", "empty(z)": "1",
		"len(none)": "!49", "full(none)": "!49", "none?[1]": "!49",
		"q?[1, 2]": "1", "q?[3, 4]": "0", "q??[3, 4]": "1", "q??[3, 5]": "0", "q?[g, _]": "1", "q??[eval(g), _]": "0", "q??[_, eval(g + g)]": "1", "q?[1]": "!49", "q?[eval(7 / 0), _]": "!48", "e?[_]": "0", "z?[_]": "0",
		"_pid": "0", "_last": "4", "_nr_pr": "2", "timeout": "0",
		"enabled(0)": "0", "enabled(1)": "1", "enabled(2)": "0", "enabled(-1)": "0", "enabled(7 / 0)": "!48",
		"pc_value(1)": "1", "pc_value(0)": "0", "pc_value(2)": "!52", "pc_value(-1)": "!52", "p[1]@M": "1", "p[1]@here": "0", "p[0]@M": "!52", "p[5]@M": "!52",
		"p[1]:w": "9", "p[g - 1]:l[1]": "6", "p[1]:l[2]": "!47", "p[0]:w": "!52", "p[2]:w": "!52", "p[7 / 0]:w": "!48", "r[0]:i": "1", "p[3]:l[7 / 0]": "!52",
	} {
		e, at := env(t, x)
		v, err := Eval(e, at)
		got := fmt.Sprint(v)
		if err != api.OK {
			got = fmt.Sprint("!", int(err))
			if v != 0 {
				t.Errorf("%s: %d beside an error", x, v)
			}
		}
		if got != want {
			t.Errorf("%s: got %s, want %s", x, got, want)
		}
	}
	e, at := env(t, "timeout")
	e.Timeout = true
	if v, _ := Eval(e, at); v != 1 {
		t.Error("timeout")
	}
	e, at = env(t, "_pid")
	e.Pid = -1
	if v, _ := Eval(e, at); v != -1 {
		t.Error("_pid of the claim")
	}
}

// What only a claim asks.
func TestNp(t *testing.T) {
	m, _, _ := compile.Compile("active proctype p() { progress: 0; 0 } never { np_ }")
	s, _ := state.First(m)
	x := m.Procs[1].Locs[0].Out[0].S.A
	if v, err := Eval(api.Env{M: m, S: s, Pid: -1}, x); v != 0 || err != api.OK {
		t.Errorf("%d, error %d", v, err)
	}
	s.Procs[0].Loc = 1
	if v, err := Eval(api.Env{M: m, S: s, Pid: -1}, x); v != 1 || err != api.OK {
		t.Errorf("%d, error %d", v, err)
	}
}

// P14.1, P14.4, P14.6.
func TestStore(t *testing.T) {
	for x, want := range map[string]string{
		"g": "-1 0", "a[g]": "-1 3", "b[1]": "0 2", "p[1]:l[0]": "1 1", "t[1].y[1]": "-1 15",
		"5": "!42", "a[3]": "!47", "a[7 / 0]": "!48", "p[7 / 0]:w": "!48", "p[9]:w": "!52", "p[0]:w": "!52", "g + 1": "!42",
	} {
		e, at := env(t, x)
		before := fmt.Sprint(e.S)
		pid, slot, err := Slot(e, at)
		got := fmt.Sprint(pid, slot)
		s, err2 := Store(e, at, 70000)
		if err != err2 {
			t.Errorf("%s: error %d and %d", x, err, err2)
		}
		if err != api.OK {
			got = fmt.Sprint("!", int(err))
			if pid != 0 || slot != 0 || s.Globals != nil {
				t.Errorf("%s: more beside an error", x)
			}
		} else {
			e2 := e
			e2.S = s
			if v, _ := Eval(e2, at); v != 112 && v != 4464 {
				t.Errorf("%s: stored %d", x, v)
			}
			if state.Check(e.M, s) != api.OK {
				t.Errorf("%s: a state that may not be", x)
			}
		}
		if got != want {
			t.Errorf("%s: got %s, want %s", x, got, want)
		}
		if fmt.Sprint(e.S) != before {
			t.Errorf("%s: the state was changed", x)
		}
	}
	e, at := env(t, "b[1]")
	e.Pid = -1
	if pid, slot, err := Slot(e, at); err != api.ErrInput || pid != 0 || slot != 0 {
		t.Errorf("no process: %d, %d, error %d", pid, slot, err)
	}
	// Another process's frame is too small for it, or another one's.
	m, _, _ := compile.Compile("byte g; active proctype p() { g } active proctype r() { byte b[2]; b[1] }")
	s, _ := state.First(m)
	x := m.Procs[1].Locs[0].Out[0].S.A
	if _, _, err := Slot(api.Env{M: m, S: s, Pid: 1}, x); err != api.OK {
		t.Errorf("error %d", err)
	}
	if v, err := Eval(api.Env{M: m, S: s, Pid: 0}, x); v != 0 || err != api.ErrInput {
		t.Errorf("%d, error %d", v, err)
	}
	if pid, slot, err := Slot(api.Env{M: m, S: s, Pid: 0}, x); err != api.ErrInput || pid != 0 || slot != 0 {
		t.Errorf("%d, %d, error %d", pid, slot, err)
	}
	beyond := m
	beyond.Exprs = append(append([]api.Expr{}, m.Exprs...), api.Expr{Op: api.XVar, A: -1, B: -1, C: -1, V: api.Var{Slot: 1, Who: -1, Type: -1}})
	if _, err := Eval(api.Env{M: beyond, S: s}, len(m.Exprs)); err != api.ErrInput {
		t.Errorf("error %d", err)
	}
}

// P14.3.
func TestChan(t *testing.T) {
	for x, want := range map[string][2]int{"q": {1, 0}, "z": {3, 0}, "none": {0, 49}, "g": {2, 0}, "4": {0, 49}, "-1": {0, 49}, "7 / 0": {0, 48}} {
		e, at := env(t, x)
		if n, err := Chan(e, at); n != want[0] || int(err) != want[1] {
			t.Errorf("%s: %d, error %d", x, n, err)
		}
	}
}

// What all calls look at first.
func TestInput(t *testing.T) {
	good, at := env(t, "g")
	for i, c := range []struct {
		change func(e *api.Env, x *int)
		want   api.Errno
	}{
		{func(e *api.Env, x *int) { e.M.Procs = nil; *x = -1 }, api.ErrModel}, {func(e *api.Env, x *int) { e.S.Last = -1; e.Pid = 9 }, api.ErrState}, {func(e *api.Env, x *int) { e.Pid = -2 }, api.ErrInput}, {func(e *api.Env, x *int) { e.Pid = 2 }, api.ErrInput},
		{func(e *api.Env, x *int) { *x = -1 }, api.ErrInput}, {func(e *api.Env, x *int) { *x = len(e.M.Exprs) }, api.ErrInput},
	} {
		e, x := good, at
		c.change(&e, &x)
		v, e1 := Eval(e, x)
		pid, slot, e2 := Slot(e, x)
		_, e3 := Store(e, x, 1)
		c4, e4 := Chan(e, x)
		if v != 0 || pid != 0 || slot != 0 || c4 != 0 {
			t.Errorf("%d: more beside an error", i)
		}
		if e1 != c.want || e2 != c.want || e3 != c.want || e4 != c.want {
			t.Errorf("%d: errors %d %d %d %d", i, e1, e2, e3, e4)
		}
	}
	m, _, _ := compile.Compile("proctype p() { 1 } init { run p() }")
	s, _ := state.First(m)
	if v, err := Eval(api.Env{M: m, S: s}, m.Procs[1].Locs[0].Out[0].S.A); v != 0 || err != api.ErrInput {
		t.Errorf("run: %d, error %d", v, err)
	}
}

// P14.5.
func TestPrint(t *testing.T) {
	for text, want := range map[string]string{
		"a%d%%%c%q": "a5%B%q", "%d": "5", "%i,%e": "5,66", "%": "%", "a%": "a%", "%%": "%", "": "", "%d%d%d%d%d": "566-1300", "%z%d": "%z5", "\\n": "\\n", "%%d": "%d", "%u%u%u": "5664294967295", "%d%d%x": "566ffffffff", "%d%x%o": "54237777777777", "%d%d%d%c": "566-1,",
	} {
		got := Print(text, []int64{5, 66, -1, 300})
		if text == "%d%d%d%d%d" {
			want = "566-1300"
		}
		if got != want {
			t.Errorf("%s: got %q, want %q", text, got, want)
		}
	}
	if got := Print("%d|%c|%x", nil); got != "||" {
		t.Errorf("got %q", got)
	}
	if got := Print("%u %x %o %d", []int64{1<<32 + 7, -1 << 40, 8, -1 << 63}); got != "7 0 10 -9223372036854775808" {
		t.Errorf("got %q", got)
	}
}

// The first expression; the first process that is enabled; numbers fitted to a frame's own types.
func TestFirst(t *testing.T) {
	m, _, _ := compile.Compile("byte g = 4; active proctype r() { int big; g; enabled(0); big }")
	s, _ := state.First(m)
	e := api.Env{M: m, S: s, Able: []bool{true}}
	if v, err := Eval(e, 0); v != 4 || err != api.OK {
		t.Errorf("%d, error %d", v, err)
	}
	locs := m.Procs[0].Locs
	if v, err := Eval(e, locs[1].Out[0].S.A); v != 1 || err != api.OK {
		t.Errorf("%d, error %d", v, err)
	}
	if s, err := Store(e, locs[2].Out[0].S.A, 70000); err != api.OK || s.Procs[0].Frame[0] != 70000 {
		t.Errorf("error %d, %v", err, s)
	}
	if s, err := Store(e, 0, 70000); err != api.OK || s.Globals[0] != 112 {
		t.Errorf("error %d, %v", err, s)
	}
}
