package cycle

import (
	"spinneret/api"
	"spinneret/claim"
	"spinneret/state"
)

// stage is a state on a path: the move that led there, its steps, how many of them were looked at.
type stage struct {
	number int
	move   api.Move
	steps  []api.Next
	looked int
}

// next is the next step of a stage; false: all were looked at.
func (h *hunter) next(s *stage) (api.Next, bool) {
	if s.looked == len(s.steps) {
		return api.Next{}, false
	}
	s.looked++
	h.found.Steps++
	return s.steps[s.looked-1], true
}

// search goes depth first; whenever it leaves a state of acceptance, a second search goes out from that.
func (h *hunter) search() {
	var path []stage
	st, err := state.First(h.searched)
	if h.fails(err) {
		return
	}
	n := api.Next{State: st}
	var more bool
down:
	path = h.enter(path, n)
look:
	if h.over() {
		return
	}
	if n, more = h.next(&path[len(path)-1]); !more {
		goto up
	}
	if _, there := h.known.Find(h.key(n.State)); there {
		goto look
	}
	if len(path) < h.o.Depth && h.known.Len() < h.o.States {
		goto down
	}
	h.found.Kind = api.FoundLimit
	return
up:
	top := path[len(path)-1]
	h.fails(h.known.Clear(top.number, onPath))
	accepts, err := claim.Accepts(h.searched, h.met[top.number].state)
	if h.fails(err) {
		return
	}
	if accepts {
		goto again
	}
leave:
	if path = path[:len(path)-1]; len(path) > 0 {
		goto look
	}
	h.found.Kind = api.FoundClean
	return
again:
	if h.second(path); h.over() {
		return
	}
	goto leave
}

// enter meets a state that isn't met yet: it is the path's last one from then on.
func (h *hunter) enter(path []stage, n api.Next) []stage {
	number, _, err := h.known.Put(h.key(n.State))
	if h.fails(err) || h.fails(h.known.Mark(number, onPath)) {
		return path
	}
	h.met[number] = entry{n.State, h.only(n.State)}
	return append(path, stage{number: number, move: n.Move, steps: h.steps(number)})
}

// second searches from the path's last state for one that is on the path, or for that state itself. Where it has been once, it needn't go again.
func (h *hunter) second(path []stage) {
	from := path[len(path)-1].number
	if h.fails(h.known.Mark(from, seed|second)) {
		return
	}
	defer h.known.Clear(from, seed)
	way := []stage{{number: from, steps: h.steps(from)}}
look:
	n, more := h.next(&way[len(way)-1])
	if !more {
		goto up
	}
	if number, there := h.known.Find(h.key(n.State)); there {
		bits := h.known.Bits(number)
		if bits&(onPath|seed) != 0 {
			h.tell(path, way, n.Move, number)
			return
		}
		if bits&second == 0 {
			h.fails(h.known.Mark(number, second))
			way = append(way, stage{number: number, move: n.Move, steps: h.steps(number)})
		}
	}
	goto look
up:
	if way = way[:len(way)-1]; len(way) > 0 && !h.over() {
		goto look
	}
}

// tell tells the lasso: along the path, then along the way of the second search, and by the last move back to a state of the path.
func (h *hunter) tell(path, way []stage, last api.Move, back int) {
	h.found.Kind, h.found.What = api.FoundError, api.WhatCycle
	h.found.Trail = append(append(moves(path), moves(way)...), last)
	for i, p := range path {
		if p.number == back {
			h.found.Cycle = i
		}
	}
}

// moves are those along a path: none led to its first state.
func moves(path []stage) []api.Move {
	var out []api.Move
	for _, p := range path[1:] {
		out = append(out, p.move)
	}
	return out
}
