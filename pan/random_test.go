package pan

import (
	"fmt"
	"math/rand"
	"slices"
	"strings"
	"testing"

	"spinneret/api"
	"spinneret/chart"
	"spinneret/claim"
	"spinneret/compile"
	"spinneret/cycle"
	"spinneret/fair"
	"spinneret/good"
	"spinneret/por"
	"spinneret/print"
	"spinneret/sim"
	"spinneret/state"
	"spinneret/step"
	"spinneret/syntax"
	"spinneret/trail"
)

// maker makes sources by a row of numbers that is always the same.
type maker struct {
	r      *rand.Rand
	labels int
	// plain: nothing that keeps a model from being reduced.
	plain, inStep bool
}

func (k *maker) pick(l ...string) string { return l[k.r.Intn(len(l))] }

func (k *maker) value(deep int) string {
	if deep == 0 || k.r.Intn(3) == 0 {
		return k.pick("0", "1", "2", "g", "h", "x", "y", "a[x % 2]", "_pid")
	}
	a, b := k.value(deep-1), k.value(deep-1)
	return k.pick("("+a+" + "+b+") % 3", "("+a+" == "+b+")", "("+a+" -> "+b+" : 1)", "!("+a+")", a+" && ("+b+")", "(2 - "+a+") & 3", a+" << 1 & 3")
}

func (k *maker) guard() string {
	l := []string{"g == 1", "x == 0", "h != g", "x < 2", "len(c) < 1", "nempty(c)", "1", "g", "c?[1]", "y == x"}
	if !k.plain {
		l = append(l, "timeout", "enabled(0)", "_last == 0", "_nr_pr < 3", "d?[_]")
	}
	return k.pick(l...)
}

func (k *maker) simple() string {
	switch k.r.Intn(12) {
	case 0, 1:
		return k.pick("g", "h", "x", "y", "a[x % 2]") + " = " + k.value(2)
	case 2, 3:
		return k.pick("x", "y") + " = " + k.pick("1 - x", "x", "0", "1", "(y + 1) % 2")
	case 4:
		return k.pick("c!g", "c!1", "d!x", "d!1", "c!!x", "d!2")
	case 5:
		return k.pick("c?x", "c?1", "d?y", "d?_", "d?1", "c??g", "c?<x>", "d?eval(x)", "d?a[x % 2]")
	case 6:
		return k.guard()
	case 7:
		return "assert " + k.pick("x < 3", "g != 2 || h != 2", "1", "len(c) < 3", "x + y < 5")
	case 8:
		return "printf(\"%d \", " + k.value(1) + ")"
	case 9:
		return "skip"
	case 10:
		if k.r.Intn(3) > 0 || k.inStep {
			return "skip"
		}
		return k.pick("run q(x)", "x = run q(1)")
	}
	return k.pick("x = 0", "g = (g + 1) % 3", "y = 1 - y", "select (x : 0 .. 1)")
}

func (k *maker) step(deep int) string {
	if deep == 0 || k.r.Intn(2) == 0 {
		return k.label() + k.simple()
	}
	switch k.r.Intn(9) {
	case 0, 1:
		return k.label() + "if " + k.options(deep) + " fi"
	case 2, 3:
		return k.label() + "do " + k.options(deep) + " od"
	case 4:
		if k.inStep {
			return "{ " + k.row(deep-1) + " }"
		}
		return "atomic { " + k.row(deep-1) + " }"
	case 5:
		if k.inStep {
			return k.simple()
		}
		k.inStep = true
		defer func() { k.inStep = false }()
		return "d_step { " + k.row(deep-1) + " }"
	case 6:
		if k.inStep {
			return k.simple()
		}
		return "{ " + k.row(deep-1) + " } unless { " + k.guard() + "; " + k.row(deep-1) + " }"
	case 7:
		return "for (y : 0 .. 1) { " + k.row(deep-1) + " }"
	}
	return "{ " + k.row(deep-1) + " }"
}

func (k *maker) label() string {
	if k.r.Intn(5) > 0 {
		return ""
	}
	k.labels++
	return fmt.Sprint(k.pick("accept", "progress", "end", "L"), k.labels, ": ")
}

func (k *maker) options(deep int) string {
	var l []string
	for range 1 + k.r.Intn(3) {
		l = append(l, ":: "+k.pick(k.guard(), k.simple())+"; "+k.row(deep-1))
	}
	if k.r.Intn(3) == 0 {
		l = append(l, ":: else -> "+k.row(deep-1))
	}
	return strings.Join(l, " ")
}

func (k *maker) row(deep int) string {
	var l []string
	for range 1 + k.r.Intn(3) {
		l = append(l, k.step(deep))
	}
	return strings.Join(l, "; ")
}

func (k *maker) source() string {
	s := fmt.Sprintf("byte g, h = 1, a[2]; chan c = [%d] of { byte }; chan d = [0] of { byte }; ", 1+k.r.Intn(2))
	s += "proctype q(byte x) { byte y; " + k.row(1) + " } "
	for i := range 1 + k.r.Intn(2) {
		prio, provided := "", ""
		if !k.plain && k.r.Intn(6) == 0 {
			prio = " priority 2"
		}
		if k.r.Intn(8) == 0 {
			provided = " provided (g != 2)"
		}
		s += fmt.Sprintf("active [%d] proctype p%d()%s%s { byte x, y; %s } ", 1+k.r.Intn(2), i, prio, provided, k.row(3))
	}
	if !k.plain && k.r.Intn(4) == 0 {
		s += "never { " + k.pick("do :: 1 :: g == 1 -> break od; accept: do :: h od", "do :: g != 2 :: g == 2 -> break od", "accept: do :: 1 od", "do :: assert g < 2 od", "do :: else :: g == 2 -> 0 od") + " } "
	}
	return s
}

// models are those of sources that are made, up to a number.
func models(t *testing.T, seed int64, count int, plain bool, do func(s string, m api.Model)) {
	t.Helper()
	k := &maker{r: rand.New(rand.NewSource(seed)), plain: plain}
	made := 0
	for range 20 * count {
		s := k.source()
		m, e, at := compile.Compile(s)
		if e != api.OK {
			if e != api.ErrRule && e != api.ErrStatic {
				t.Fatalf("%s: error %d at %d", s, e, at)
			}
			continue
		}
		do(s, m)
		if made++; made == count {
			return
		}
	}
	t.Errorf("only %d models", made)
}

// world is all that a model can come to, found by itself.
type world struct {
	states []api.State
	next   [][]api.Next
	to     [][]int
}

// all meets all states by steps; nil: there are too many.
func all(t *testing.T, m api.Model, most int, steps func(api.Model, api.State) ([]api.Next, api.Errno)) *world {
	t.Helper()
	w := &world{}
	known := map[string]int{}
	meet := func(s api.State) int {
		key, e := state.Encode(m, s)
		if e != api.OK {
			t.Fatalf("a state that may not be: %v", s)
		}
		n, there := known[key]
		if !there {
			n = len(w.states)
			known[key] = n
			w.states = append(w.states, s)
			if back, e := state.Decode(m, key); e != api.OK || !state.Same(back, s) {
				t.Fatalf("%s is decoded as %v", key, back)
			}
		}
		return n
	}
	first, _ := state.First(m)
	meet(first)
	for i := 0; i < len(w.states); i++ {
		if len(w.states) > most {
			return nil
		}
		l, e := steps(m, w.states[i])
		if e != api.OK {
			t.Fatalf("error %d", e)
		}
		var to []int
		for _, n := range l {
			if n.Err != api.OK {
				to = append(to, -1)
				continue
			}
			to = append(to, meet(n.State))
		}
		w.next, w.to = append(w.next, l), append(w.to, to)
	}
	return w
}

// wrong tells whether something is that a safety search looks for.
func (w *world) wrong(m api.Model, free bool) bool {
	for i, s := range w.states {
		ended, _ := claim.Ended(m, s)
		stuck, _ := step.Stuck(m, s)
		if ended || stuck && !free {
			return true
		}
		for _, to := range w.to[i] {
			if to < 0 {
				return true
			}
		}
	}
	return false
}

// reach is what is reached from a state by a step at least.
func (w *world) reach(from int, inside []bool) []bool {
	seen := make([]bool, len(w.states))
	wait := []int{from}
	for len(wait) > 0 {
		at := wait[0]
		wait = wait[1:]
		for _, to := range w.to[at] {
			if to >= 0 && !seen[to] && (inside == nil || inside[to]) {
				seen[to] = true
				wait = append(wait, to)
			}
		}
	}
	return seen
}

// cycles tells whether there is a cycle through acceptance; and a fair one.
func (w *world) cycles(m api.Model) (bool, bool) {
	any, anyFair := false, false
	back := make([][]bool, len(w.states))
	for i, s := range w.states {
		if accepts, _ := claim.Accepts(m, s); !accepts {
			continue
		}
		forth := w.reach(i, nil)
		if !forth[i] {
			continue
		}
		any = true
		part := make([]bool, len(w.states))
		for j := range w.states {
			if forth[j] {
				if back[j] == nil {
					back[j] = w.reach(j, nil)
				}
				part[j] = back[j][i]
			}
		}
		if w.fairPart(m, part) {
			anyFair = true
		}
	}
	return any, anyFair
}

func (w *world) fairPart(m api.Model, part []bool) bool {
	for pid := range api.MaxProcs {
		ok := false
		for i, s := range w.states {
			if !part[i] {
				continue
			}
			able, _ := fair.Enabled(m, s)
			if pid >= len(able) || !able[pid] {
				ok = true
			}
			for j, n := range w.next[i] {
				if to := w.to[i][j]; to >= 0 && part[to] && (n.Move.Pid == pid || n.Move.With == pid) {
					ok = true
				}
			}
		}
		if !ok {
			return false
		}
	}
	return true
}

// P9.4, P10.2, P16.3, P20.4, P25.4: safety, in all modes, held against all states.
func TestRandomSafety(t *testing.T) {
	verdicts := [5]int{}
	models(t, 1, 120, false, func(s string, m api.Model) {
		if e, part, at := good.Check(m); e != api.OK {
			t.Fatalf("%s: part %d, place %d", s, part, at)
		}
		tree, _, _ := syntax.Read(s)
		text, _ := print.Text(tree)
		if again, e, _ := compile.Compile(text); e != api.OK || len(again.Exprs) != len(m.Exprs) {
			t.Fatalf("%s: printed as %s", s, text)
		}
		w := all(t, m, 600, claim.Steps)
		if w == nil {
			return
		}
		for _, o := range []api.Options{{}, {Bfs: true}, {Free: true}, {Free: true, Bfs: true}, {Reduce: true}, {Reduce: true, Bfs: true}, {Reduce: true, Free: true}} {
			o.Mode, o.States, o.Depth = api.ModeSafety, 601, 601
			f, e := Search(m, o)
			if e != api.OK {
				if e != por.Admits(m) || !o.Reduce {
					t.Fatalf("%s, %v: error %d", s, o, e)
				}
				continue
			}
			want := api.FoundClean
			if w.wrong(m, o.Free) {
				want = api.FoundError
			}
			verdicts[f.Kind]++
			if f.Kind != want || trail.Check(m, o, f) != api.OK {
				t.Fatalf("%s, %v: %v, want %d", s, o, f, want)
			}
			if f.Kind == api.FoundClean && !o.Reduce && f.States != len(w.states) {
				t.Fatalf("%s, %v: %d states, want %d", s, o, f.States, len(w.states))
			}
			told(t, s, m, f)
		}
	})
	if verdicts[api.FoundClean] < 20 || verdicts[api.FoundError] < 20 {
		t.Errorf("verdicts %v", verdicts)
	}
}

// told holds a trail's text, chart and picks against the trail.
func told(t *testing.T, s string, m api.Model, f api.Found) {
	t.Helper()
	text, e := trail.Print(f)
	back, e2, _ := trail.Parse(text)
	if e != api.OK || e2 != api.OK || fmt.Sprint(back) != fmt.Sprint(f) {
		t.Fatalf("%s: %s", s, text)
	}
	if f.Cycle >= 0 {
		return
	}
	picks, e, _ := sim.Picks(m, f.Trail)
	run, _ := sim.Run(m, picks)
	if e != api.OK || !slices.Equal(run.Moves, f.Trail) || run.Err != f.Err && f.What == api.WhatRun {
		t.Fatalf("%s: picks %v", s, picks)
	}
	drawn, e, _ := chart.Draw(m, f.Trail)
	if e != api.OK || strings.Count(drawn, "\n") != len(f.Trail)+1 {
		t.Fatalf("%s: %s", s, drawn)
	}
}

// P21.3, P21.4, P22.4: cycles, reduced and whole, fair or not, held against all states.
func TestRandomCycles(t *testing.T) {
	verdicts := map[string]int{}
	for i, plain := range []bool{true, false} {
		models(t, int64(2+i), 100, plain, func(s string, m api.Model) {
			for _, mode := range []int{api.ModeAccept, api.ModeNp} {
				searched := m
				if mode == api.ModeNp {
					var e api.Errno
					if searched, e = claim.Np(m); e != api.OK {
						continue
					}
				}
				w := all(t, searched, 300, cycle.Steps)
				if w == nil {
					continue
				}
				any, anyFair := w.cycles(searched)
				for _, o := range []api.Options{{}, {Reduce: true}, {Fair: true}} {
					o.Mode, o.States, o.Depth = mode, 301, 301
					f, e := Search(m, o)
					if e != api.OK {
						if e != por.Admits(m) || !o.Reduce {
							t.Fatalf("%s, %v: error %d", s, o, e)
						}
						continue
					}
					is := any
					if o.Fair {
						is = anyFair
					}
					verdicts[fmt.Sprint(mode, o.Reduce, o.Fair, f.Kind)]++
					if (f.Kind == api.FoundError) != is || f.Kind == api.FoundLimit || trail.Check(m, o, f) != api.OK {
						t.Fatalf("%s, %v: %v, want a cycle: %v", s, o, f, is)
					}
					told(t, s, m, f)
				}
			}
		})
	}
	for _, mode := range []string{"2 false false ", "2 true false ", "2 false true ", "3 false false ", "3 true false ", "3 false true "} {
		if verdicts[mode+"1"] < 2 || verdicts[mode+"2"] < 2 {
			t.Errorf("%s: %v", mode, verdicts)
		}
	}
}

// P19.4: a safe process's step and another one's go in both orders to the same state.
func TestRandomOrders(t *testing.T) {
	count := 0
	models(t, 5, 80, true, func(s string, m api.Model) {
		if por.Admits(m) != api.OK {
			return
		}
		w := all(t, m, 200, step.Steps)
		if w == nil {
			return
		}
		for i, st := range w.states {
			alone, _ := por.Alone(m, st, w.next[i])
			for _, a := range w.next[i] {
				for _, b := range w.next[i] {
					if slices.Contains(alone, a.Move.Pid) && b.Move.Pid != a.Move.Pid && a.Err == api.OK && b.Err == api.OK {
						count++
						bothOrders(t, s, m, a, b)
					}
				}
			}
		}
	})
	if count < 100 {
		t.Errorf("only %d pairs", count)
	}
}

func bothOrders(t *testing.T, s string, m api.Model, a, b api.Next) {
	t.Helper()
	follow := func(st api.State, v api.Move) (api.State, bool) {
		st.Alone = -1
		l, _ := step.Steps(m, st)
		for _, n := range l {
			if n.Move == v && n.Err == api.OK {
				n.State.Last, n.State.Alone = 0, 0
				return n.State, true
			}
		}
		return api.State{}, false
	}
	ab, ok1 := follow(a.State, b.Move)
	ba, ok2 := follow(b.State, a.Move)
	if !ok1 || !ok2 || !state.Same(ab, ba) {
		t.Fatalf("%s: %v and %v: %v %v", s, a.Move, b.Move, ok1, ok2)
	}
}
