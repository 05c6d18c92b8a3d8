package fair

import (
	"spinneret/api"
	"spinneret/claim"
	"spinneret/cycle"
	"spinneret/state"
	"spinneret/store"
)

// edge is a step from a state to another one.
type edge struct {
	to   int
	move api.Move
}

// node is a state: from which one it was met, and by which move; how many moves there are up to it.
type node struct {
	from, moves int
	by          api.Move
	edges       []edge
	able        [api.MaxProcs]bool
	accepts     bool
	part        int
}

// graph is all states that were met, and the steps between them.
type graph struct {
	nodes []node
	steps int
	// limit: not all states were met.
	limit bool
}

// explore meets all states, breadth first, up to the limits.
func explore(m api.Model, o api.Options) (*graph, api.Errno) {
	known, err := store.New(o.States)
	if err != api.OK {
		return nil, err
	}
	first, err := state.First(m)
	if err != api.OK {
		return nil, err
	}
	g := &graph{}
	var states []api.State
	meet := func(s api.State, n node) (int, api.Errno) {
		key, err := state.Encode(m, s)
		if err != api.OK {
			return 0, err
		}
		if number, there := known.Find(key); there {
			return number, api.OK
		}
		if n.moves >= o.Depth || known.Len() >= o.States {
			g.limit = true
			return -1, api.OK
		}
		number, _, err := known.Put(key)
		states, g.nodes = append(states, s), append(g.nodes, n)
		return number, err
	}
	if _, err = meet(first, node{from: -1}); err != api.OK {
		return nil, err
	}
	for at := 0; at < len(states) && !g.limit; at++ {
		if err := g.expand(m, at, states[at], meet); err != api.OK {
			return nil, err
		}
		states[at] = api.State{}
	}
	return g, api.OK
}

// expand looks at a state, and meets all that its steps lead to.
func (g *graph) expand(m api.Model, at int, s api.State, meet func(api.State, node) (int, api.Errno)) api.Errno {
	able, err := Enabled(m, s)
	if err != api.OK {
		return err
	}
	copy(g.nodes[at].able[:], able)
	if g.nodes[at].accepts, err = claim.Accepts(m, s); err != api.OK {
		return err
	}
	l, err := cycle.Steps(m, s)
	if err != api.OK {
		return err
	}
	for _, n := range l {
		g.steps++
		to, err := meet(n.State, node{from: at, moves: g.nodes[at].moves + 1, by: n.Move})
		if err != api.OK {
			return err
		}
		if to >= 0 {
			g.nodes[at].edges = append(g.nodes[at].edges, edge{to, n.Move})
		}
	}
	return api.OK
}

// parts are the greatest lists of states that can all be reached from one another.
func (g *graph) parts() [][]int {
	n := len(g.nodes)
	// number: of each state when it was met, from 1 on; 0: it wasn't yet. low: the least one that is reached from it, and from which it is.
	number, low, open := make([]int, n), make([]int, n), make([]bool, n)
	var stack []int
	var out [][]int
	count := 0
	var visit func(at int)
	visit = func(at int) {
		count++
		number[at], low[at], open[at] = count, count, true
		stack = append(stack, at)
		for _, e := range g.nodes[at].edges {
			if number[e.to] == 0 {
				visit(e.to)
				low[at] = min(low[at], low[e.to])
			} else if open[e.to] {
				low[at] = min(low[at], number[e.to])
			}
		}
		if low[at] < number[at] {
			return
		}
		var part []int
		for {
			last := stack[len(stack)-1]
			stack, open[last] = stack[:len(stack)-1], false
			part = append(part, last)
			g.nodes[last].part = len(out)
			if last == at {
				break
			}
		}
		out = append(out, part)
	}
	for at := range n {
		if number[at] == 0 {
			visit(at)
		}
	}
	return out
}
