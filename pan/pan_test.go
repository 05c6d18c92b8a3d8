package pan

import (
	"fmt"
	"strings"
	"testing"

	"spinneret/api"
	"spinneret/compile"
	"spinneret/sim"
	"spinneret/trail"
)

// The ten examples of the whole.
func TestTen(t *testing.T) {
	safety := api.Options{Mode: api.ModeSafety, States: 5000, Depth: 5000}
	with := func(change func(o *api.Options)) api.Options {
		o := safety
		change(&o)
		return o
	}
	bfs := with(func(o *api.Options) { o.Bfs = true })
	accept, np := with(func(o *api.Options) { o.Mode = api.ModeAccept }), with(func(o *api.Options) { o.Mode = api.ModeNp })
	fair := with(func(o *api.Options) { o.Mode = api.ModeAccept; o.Fair = true })
	reduce := with(func(o *api.Options) { o.Reduce = true })
	meet := "chan c = [0] of { byte }; active proctype A() { c!1 } active proctype B() { byte v; c?%s; assert(v == 1) }"
	for i, c := range []struct {
		s    string
		o    api.Options
		want string // kind, what, error, place; moves
	}{
		{"active proctype A() { skip }", safety, "1 0 0 0, 0, 3"},
		{"active proctype A() { assert(0) }", safety, "2 1 50 0, 1"},
		{"byte x; active [2] proctype A() { x++; assert(x < 2) }", bfs, "2 1 50 0, 3"},
		{"byte x; active proctype A() { x == 1 }", safety, "2 2 0 0, 0"},
		{"byte x; active proctype A() { end: x == 1 }", safety, "1 0 0 0, 0"},
		{fmt.Sprintf(meet, "v"), safety, "1 0 0 0, 0"},
		{fmt.Sprintf(meet, "2"), safety, "2 2 0 0, 0"},
		{"bit x; active proctype A() { do :: x = 1; accept: x = 0 od }", accept, "2 4 0 0"},
		{"bit x; active proctype A() { do :: x = 1; x = 0 od }", accept, "1 0 0 0, 0"},
		{"bit x; active proctype A() { do :: x = 1; x = 0 od }", np, "2 4 0 0"},
		{"bit x; active proctype A() { do :: x = 1; progress: x = 0 od }", np, "1 0 0 0, 0"},
		{"bit x; active proctype A() { do :: x = 1 - x od } active proctype B() { accept: x = 1 }", accept, "2 4 0 0"},
		{"bit x; active proctype A() { do :: x = 1 - x od } active proctype B() { accept: x = 1 }", fair, "1 0 0 0, 0"},
		{"bit x; active proctype A() { x = 1 } never { do :: x == 0 :: x == 1 -> break od }", safety, "2 3 0 0"},
		{"active proctype A() { _last == 0 }", reduce, "4 0 44 0, 0, 0"},
		{"active proctype A( { skip }", safety, "4 0 9 19, 0, 0"},
		{"", safety, "4 0 14 0, 0, 0"},
		{"active proctype A() { skip }", with(func(o *api.Options) { o.States = 0 }), "4 0 42 0, 0, 0"},
		{"active proctype A() { skip }", with(func(o *api.Options) { o.States = 2 }), "3 0 0 0, 0, 2"},
		{"active proctype A() { skip }", with(func(o *api.Options) { o.Fair = true }), "4 0 44 0, 0, 0"},
		{"active proctype A() { skip }", with(func(o *api.Options) { o.Mode = 0 }), "4 0 44 0, 0, 0"},
		{"active proctype A() { skip }", with(func(o *api.Options) { o.Mode = 7; o.Fair = true }), "4 0 44 0, 0, 0"},
	} {
		f := Run(c.s, c.o)
		got := fmt.Sprintf("%d %d %d %d, %d, %d", f.Kind, f.What, f.Err, f.At, len(f.Trail), f.States)
		if !strings.HasPrefix(got, c.want) {
			t.Errorf("%d: %s: got %s, want %s", i, c.s, got, c.want)
		}
		if f.Kind == api.FoundReject && (f.Cycle != -1 || f.Steps != 0) {
			t.Errorf("%d: %v", i, f)
		}
		// P25.3
		want, _ := trail.Print(f)
		if text := Report(c.s, c.o); text != want || text == "" {
			t.Errorf("%d: report %s", i, text)
		}
	}
}

// P25.3.
func TestSimulate(t *testing.T) {
	s := "byte x; active [2] proctype p() { x = x + 1; printf(\"%d\", x) }"
	m, _, _ := compile.Compile(s)
	for _, picks := range [][]int{nil, {0}, {1, 1, 1}, {0, 0, 0, 0, 0, 0, 0, 0, 0}} {
		want, _ := sim.Run(m, picks)
		got, e, at := Simulate(s, picks)
		if fmt.Sprint(got) != fmt.Sprint(want) || e != api.OK || at != 0 {
			t.Errorf("%v: error %d, %v", picks, e, got)
		}
	}
	if r, e, at := Simulate("init { x }", nil); e != api.ErrName || at != 7 || r.Moves != nil {
		t.Errorf("error %d at %d", e, at)
	}
}

// P25.1.
func TestSearch(t *testing.T) {
	if f, e := Search(api.Model{}, api.Options{Mode: 1}); e != api.ErrModel || f.Kind != 0 {
		t.Errorf("error %d", e)
	}
	m, _, _ := compile.Compile("active proctype p() { progress: 0 }")
	for mode, want := range map[int]int{1: api.FoundError, 2: api.FoundClean, 3: api.FoundClean} {
		for _, fair := range []bool{false, true} {
			f, e := Search(m, api.Options{Mode: mode, Fair: fair, States: 9, Depth: 9})
			if mode == 1 && fair {
				if e != api.ErrMode {
					t.Errorf("error %d", e)
				}
			} else if e != api.OK || f.Kind != want {
				t.Errorf("mode %d, fair %v: error %d, %v", mode, fair, e, f)
			}
		}
	}
}
