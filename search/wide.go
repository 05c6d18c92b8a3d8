package search

import (
	"slices"

	"spinneret/api"
	"spinneret/state"
)

// first is what leads to the first state: no move.
func (s *searcher) first() api.Next {
	st, err := state.First(s.m)
	s.fails(err)
	return api.Next{State: st}
}

// met is a state that was met breadth first: the move by which it was, and from which one (-1: none); how many moves there are up to it.
type met struct {
	from, moves int
	move        api.Move
	state       api.State
}

// queue is all states that were met; they wait in the order in which they were.
type queue []met

// wide searches breadth first.
func (s *searcher) wide() {
	var q queue
	waits := []int{}
	q, waits = s.meet(q, waits, s.first(), -1)
next:
	if s.over() {
		return
	}
	if len(waits) == 0 {
		s.end(api.FoundClean, 0, api.OK, nil)
		return
	}
	at := waits[0]
	waits = waits[1:]
	steps := s.steps(q[at].state, func(key string) bool {
		_, there := s.known.Find(key)
		return !there
	})
	q[at].state = api.State{}
	for _, n := range steps {
		s.found.Steps++
		if n.Err != api.OK {
			s.end(api.FoundError, api.WhatRun, n.Err, append(q.trail(at), n.Move))
			return
		}
		if _, there := s.known.Find(s.key(n.State)); there {
			continue
		}
		if q, waits = s.meet(q, waits, n, at); s.over() {
			return
		}
	}
	goto next
}

// meet meets a state that isn't met yet, and lets it wait.
func (s *searcher) meet(q queue, waits []int, n api.Next, from int) (queue, []int) {
	if s.over() {
		return q, waits
	}
	moves := 0
	if from >= 0 {
		moves = q[from].moves + 1
	}
	if moves >= s.o.Depth || s.known.Len() >= s.o.States {
		s.limit()
		return q, waits
	}
	number, _, err := s.known.Put(s.key(n.State))
	if s.fails(err) {
		return q, waits
	}
	q = append(q, met{from, moves, n.Move, n.State})
	if what := s.wrong(n.State); what != 0 {
		s.end(api.FoundError, what, api.OK, q.trail(number))
	}
	return q, append(waits, number)
}

// trail are the moves by which a state was met.
func (q queue) trail(at int) []api.Move {
	var out []api.Move
	for ; q[at].from >= 0; at = q[at].from {
		out = append(out, q[at].move)
	}
	slices.Reverse(out)
	return out
}
