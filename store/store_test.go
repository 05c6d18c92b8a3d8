package store

import (
	"fmt"
	"testing"

	"spinneret/api"
)

// P18.1.
func TestNew(t *testing.T) {
	for _, most := range []int{0, -1, api.MaxStates + 1} {
		if s, e := New(most); s != nil || e != api.ErrInput {
			t.Errorf("%d: error %d", most, e)
		}
	}
	for _, most := range []int{1, api.MaxStates} {
		if s, e := New(most); s == nil || e != api.OK || s.Len() != 0 {
			t.Errorf("%d: error %d", most, e)
		}
	}
	var s *Store
	n, is, e := s.Put("a")
	m, found := s.Find("a")
	key, e2 := s.Key(0)
	if n != 0 || is || e != api.ErrInput || m != 0 || found || key != "" || e2 != api.ErrInput || s.Mark(0, 1) != api.ErrInput || s.Clear(0, 1) != api.ErrInput || s.Bits(0) != 0 || s.Len() != 0 {
		t.Error("a nil store")
	}
	// One that New didn't make may have nothing.
	var empty Store
	if _, _, e := empty.Put("a"); e != api.ErrFull {
		t.Errorf("error %d", e)
	}
	if _, found := empty.Find("a"); found {
		t.Error("found")
	}
}

// P18.2, P18.3.
func TestStore(t *testing.T) {
	s, _ := New(2)
	put := func(key string, n int, is bool, e api.Errno) {
		t.Helper()
		if n2, is2, e2 := s.Put(key); n2 != n || is2 != is || e2 != e {
			t.Errorf("Put(%s): %d %v %d", key, n2, is2, e2)
		}
	}
	put("a", 0, true, api.OK)
	if s.Mark(0, 5) != api.OK || s.Mark(0, 8) != api.OK || s.Bits(0) != 13 {
		t.Error("marks")
	}
	put("b", 1, true, api.OK)
	put("a", 0, false, api.OK)
	put("c", 0, false, api.ErrFull)
	put("b", 1, false, api.OK)
	if s.Len() != 2 || s.Bits(1) != 0 || s.Bits(0) != 13 {
		t.Error("length, or bits")
	}
	if s.Mark(1, 6) != api.OK || s.Clear(1, 2) != api.OK || s.Clear(1, 1) != api.OK || s.Bits(1) != 4 || s.Bits(0) != 13 {
		t.Error("bits")
	}
	for _, n := range []int{-1, 2} {
		key, e := s.Key(n)
		if key != "" || e != api.ErrNone || s.Mark(n, 1) != api.ErrNone || s.Clear(n, 1) != api.ErrNone || s.Bits(n) != 0 {
			t.Errorf("number %d: error %d", n, e)
		}
	}
	if n, found := s.Find("c"); n != 0 || found {
		t.Error("found what isn't there")
	}
	if n, found := s.Find("b"); n != 1 || !found {
		t.Error("not found")
	}
	if key, e := s.Key(1); key != "b" || e != api.OK {
		t.Error("key")
	}
}

// P18.4: many texts that are alike.
func TestMany(t *testing.T) {
	s, _ := New(api.MaxStates)
	key := func(i int) string {
		if i == 0 {
			return ""
		}
		return fmt.Sprintf("%0*b", 15+i%7, i)
	}
	for i := range api.MaxStates {
		if n, is, e := s.Put(key(i)); n != i || !is || e != api.OK {
			t.Fatalf("%d: %d %v %d", i, n, is, e)
		}
	}
	for i := range api.MaxStates {
		n, found := s.Find(key(i))
		text, _ := s.Key(i)
		if n != i || !found || text != key(i) {
			t.Fatalf("%d: %d %v %s", i, n, found, text)
		}
	}
	if _, _, e := s.Put("more"); e != api.ErrFull || s.Len() != api.MaxStates {
		t.Errorf("error %d", e)
	}
}
