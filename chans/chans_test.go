package chans

import (
	"fmt"
	"testing"

	"spinneret/api"
)

// P13.1.
func TestLess(t *testing.T) {
	for _, c := range []struct {
		a, b api.Message
		want bool
	}{
		{api.Message{1, 5}, api.Message{2, 0}, true}, {api.Message{2, 0}, api.Message{1, 5}, false}, {api.Message{1}, api.Message{1, 0}, true}, {api.Message{1, 0}, api.Message{1}, false},
		{api.Message{1, 5}, api.Message{1, 5}, false}, {api.Message{1, 4}, api.Message{1, 5}, true}, {nil, nil, false}, {nil, api.Message{-1}, true}, {api.Message{2}, api.Message{1, 9}, false}, {api.Message{-1 << 63}, api.Message{1<<63 - 1}, true},
	} {
		if Less(c.a, c.b) != c.want {
			t.Errorf("%v, %v", c.a, c.b)
		}
	}
}

// P13.2, P13.4, P13.5.
func TestPut(t *testing.T) {
	s := api.Shape{Room: 2, Fields: []api.Type{{Bits: 8}}}
	a, e := Put(s, api.Chan{Shape: 5}, api.Message{300}, false)
	if e != api.OK || fmt.Sprint(a) != "{5 [[44]]}" {
		t.Errorf("error %d, %v", e, a)
	}
	b, e := Put(s, a, api.Message{7}, true)
	if e != api.OK || fmt.Sprint(a, b) != "{5 [[44]]} {5 [[7] [44]]}" {
		t.Errorf("error %d, %v", e, b)
	}
	if c, e := Put(s, b, api.Message{1}, true); e != api.ErrFull || c.Queue != nil || c.Shape != 0 {
		t.Errorf("error %d, %v", e, c)
	}
	c, m, e := Take(b, 1)
	if e != api.OK || fmt.Sprint(c, m, b) != "{5 [[7]]} [44] {5 [[7] [44]]}" {
		t.Errorf("error %d, %v %v", e, c, m)
	}
	c.Queue[0][0], m[0] = 99, 99
	if fmt.Sprint(a, b) != "{5 [[44]]} {5 [[7] [44]]}" {
		t.Error("memory is shared")
	}
	for _, at := range []int{-1, 2} {
		if c, m, e := Take(b, at); e != api.ErrNone || m != nil || c.Queue != nil {
			t.Errorf("at %d: error %d", at, e)
		}
	}
	for _, bad := range []struct {
		s api.Shape
		m api.Message
	}{{s, nil}, {s, api.Message{1, 2}}, {api.Shape{Room: 2, Fields: []api.Type{{Bits: 8, Signed: true}}}, api.Message{1}}, {api.Shape{Room: 0, Fields: []api.Type{{Bits: 0}}}, api.Message{1}}} {
		if _, e := Put(bad.s, api.Chan{}, bad.m, false); e != api.ErrInput {
			t.Errorf("%v: error %d", bad, e)
		}
	}
	if _, e := Put(api.Shape{Room: 0, Fields: s.Fields}, api.Chan{}, api.Message{1}, false); e != api.ErrFull {
		t.Errorf("error %d", e)
	}
	wide := api.Shape{Room: 9, Fields: []api.Type{{Bits: 8}, {Bits: 16, Signed: true}}}
	q := api.Chan{}
	for _, m := range []api.Message{{2, 2}, {1, 40000}, {2, -1}, {258, 2}, {0, 0}} {
		q, _ = Put(wide, q, m, true)
	}
	if got := fmt.Sprint(q.Queue); got != "[[0 0] [1 -25536] [2 -1] [2 2] [2 2]]" {
		t.Errorf("got %s", got)
	}
	q, _ = Put(wide, q, api.Message{1, 1}, false)
	q, m, _ = Take(q, 0)
	if fmt.Sprint(q.Queue, m) != "[[1 -25536] [2 -1] [2 2] [2 2] [1 1]] [0 0]" {
		t.Errorf("got %v %v", q.Queue, m)
	}
	first, _ := Put(wide, api.Chan{Queue: []api.Message{{5, 5}, {1, 1}}}, api.Message{3, 3}, true)
	if fmt.Sprint(first.Queue) != "[[3 3] [5 5] [1 1]]" {
		t.Errorf("got %v", first.Queue)
	}
}

// P13.3.
func TestFind(t *testing.T) {
	q := api.Chan{Queue: []api.Message{{7, 1}, {44, 2}, {44, 3}}}
	for i, c := range []struct {
		want  []int64
		match []int
		any   bool
		at    int
	}{
		{[]int64{44}, []int{1}, false, -1}, {[]int64{44}, []int{1}, true, 1}, {[]int64{44, 3}, []int{1, 1}, true, 2}, {[]int64{44, 9}, []int{1, 0}, true, 1}, {[]int64{44, 9}, []int{1, -1}, true, 1},
		{[]int64{7, 9}, []int{1, 0}, false, 0}, {nil, nil, false, 0}, {nil, []int{0}, true, -1}, {[]int64{1, 1, 1}, []int{0, 0, 0}, true, -1}, {[]int64{7, 1, 5}, []int{1, 1}, false, 0}, {[]int64{9}, []int{1}, true, -1}, {[]int64{9}, []int{2}, false, 0},
	} {
		if got := Find(q, c.want, c.match, c.any); got != c.at {
			t.Errorf("%d: %d", i, got)
		}
	}
	if Find(api.Chan{}, nil, nil, true) != -1 {
		t.Error("no message")
	}
}

// What is handed in is left as it is, its spare room too.
func TestOwnMemory(t *testing.T) {
	s := api.Shape{Room: 9, Fields: []api.Type{{Bits: 8}}}
	l := []api.Message{{5}, {7}, {99}, {98}}
	q := api.Chan{Queue: l[:2]}
	for _, sorted := range []bool{false, true} {
		c, _ := Put(s, q, api.Message{6}, sorted)
		for _, m := range c.Queue {
			m[0] = 1
		}
		if fmt.Sprint(l) != "[[5] [7] [99] [98]]" {
			t.Fatalf("sorted %v: %v", sorted, l)
		}
	}
	c, m, _ := Take(q, 0)
	c.Queue[0][0], m[0] = 1, 1
	if fmt.Sprint(l) != "[[5] [7] [99] [98]]" {
		t.Errorf("%v", l)
	}
}
