package search

import "spinneret/api"

// stage is a state on the path: the move that led there, its steps, how many of them were looked at.
type stage struct {
	number int
	move   api.Move
	steps  []api.Next
	looked int
}

// deep searches depth first.
func (s *searcher) deep() {
	var path []stage
	n := s.first()
	if s.over() {
		return
	}
down:
	path = s.enter(path, n)
	if s.over() {
		return
	}
look:
	top := &path[len(path)-1]
	if top.looked == len(top.steps) {
		goto up
	}
	n = top.steps[top.looked]
	top.looked++
	s.found.Steps++
	if n.Err != api.OK {
		s.end(api.FoundError, api.WhatRun, n.Err, append(moves(path), n.Move))
		return
	}
	if _, there := s.known.Find(s.key(n.State)); !there {
		if len(path) < s.o.Depth && s.known.Len() < s.o.States {
			goto down
		}
		s.limit()
		return
	}
	goto look
up:
	s.fails(s.known.Clear(top.number, onPath))
	if path = path[:len(path)-1]; len(path) > 0 {
		goto look
	}
	s.end(api.FoundClean, 0, api.OK, nil)
}

// enter meets a state that isn't met yet: it is the path's last one from then on.
func (s *searcher) enter(path []stage, n api.Next) []stage {
	number, _, err := s.known.Put(s.key(n.State))
	if s.fails(err) || s.fails(s.known.Mark(number, onPath)) {
		return path
	}
	path = append(path, stage{number: number, move: n.Move})
	if what := s.wrong(n.State); what != 0 {
		s.end(api.FoundError, what, api.OK, moves(path))
		return path
	}
	path[len(path)-1].steps = s.steps(n.State, func(key string) bool {
		other, there := s.known.Find(key)
		return !there || s.known.Bits(other)&onPath == 0
	})
	return path
}

// moves are those along the path: none led to its first state.
func moves(path []stage) []api.Move {
	var out []api.Move
	for _, p := range path[1:] {
		out = append(out, p.move)
	}
	return out
}
