package fair

import (
	"slices"

	"spinneret/api"
)

// need is what a cycle has to meet: a state, or a move.
type need struct {
	state func(at int) bool
	move  func(v api.Move) bool
}

// needs are all that an accepted and fair cycle has to meet.
func (g *graph) needs() []need {
	never := func(api.Move) bool { return false }
	l := []need{{func(at int) bool { return g.nodes[at].accepts }, never}}
	for pid := range api.MaxProcs {
		l = append(l, need{
			func(at int) bool { return !g.nodes[at].able[pid] },
			func(v api.Move) bool { return goes(v, pid) },
		})
	}
	return l
}

// tour is a way through one part of a graph.
type tour struct {
	g     *graph
	from  int
	edges []edge
}

// lasso is one whose cycle lies in a part and meets all needs; false: there is none.
func (g *graph) lasso(part []int) ([]api.Move, int, bool) {
	t := &tour{g: g, from: part[0]}
	for _, n := range g.needs() {
		if !t.meets(n) && !t.goOn(n) {
			return nil, 0, false
		}
	}
	back := need{func(at int) bool { return at == t.from }, func(api.Move) bool { return false }}
	if t.at() != t.from || len(t.edges) == 0 {
		if !t.goOn(back) {
			return nil, 0, false
		}
	}
	var trail []api.Move
	for at := t.from; g.nodes[at].from >= 0; at = g.nodes[at].from {
		trail = append(trail, g.nodes[at].by)
	}
	slices.Reverse(trail)
	cycle := len(trail)
	for _, e := range t.edges {
		trail = append(trail, e.move)
	}
	return trail, cycle, true
}

// at is where a tour has come to.
func (t *tour) at() int {
	if len(t.edges) == 0 {
		return t.from
	}
	return t.edges[len(t.edges)-1].to
}

// meets tells whether a tour has met a need already.
func (t *tour) meets(n need) bool {
	if n.state(t.from) {
		return true
	}
	for _, e := range t.edges {
		if n.state(e.to) || n.move(e.move) {
			return true
		}
	}
	return false
}

// goOn goes on, by one step at least, until a need is met; false: it can't be.
func (t *tour) goOn(n need) bool {
	// by: of each state by which step it was met, and from where.
	type link struct {
		from int
		e    edge
	}
	by := map[int]link{}
	wait := []int{t.at()}
	start := t.at()
	for len(wait) > 0 {
		at := wait[0]
		wait = wait[1:]
		for _, e := range t.g.nodes[at].edges {
			if t.g.nodes[e.to].part != t.g.nodes[start].part {
				continue
			}
			if n.state(e.to) || n.move(e.move) {
				way := []edge{e}
				for ; at != start; at = by[at].from {
					way = append(way, by[at].e)
				}
				slices.Reverse(way)
				t.edges = append(t.edges, way...)
				return true
			}
			if _, there := by[e.to]; !there && e.to != start {
				by[e.to] = link{at, e}
				wait = append(wait, e.to)
			}
		}
	}
	return false
}
