package auto

import (
	"slices"

	"spinneret/api"
	"spinneret/types"
)

// maker makes the model of a tree.
type maker struct {
	t api.Tree
	n api.Names
	y api.Layout
	m api.Model
	// shapes: of each DChan its place among all.
	shapes map[int]int
	// procs: of each SymProc its number; builders: of each number.
	procs    map[int]int
	builders []*builder
	// numbers: of each proctype's places; orders: its places as they are met.
	numbers, orders [][]int
}

func newMaker(t api.Tree, n api.Names, y api.Layout) *maker {
	return &maker{t: t, n: n, y: y, shapes: map[int]int{}, procs: map[int]int{}}
}

// tooMany is thrown where there are more expressions than there may be.
type tooMany struct{}

func (m *maker) model() (api.Model, api.Errno, int) {
	m.m.Globals, m.m.Init, m.m.Claim = slices.Clone(m.y.Globals), slices.Clone(m.y.Init), -1
	m.channels()
	for sym, s := range m.n.Syms {
		if s.Kind == api.SymProc {
			m.procs[sym] = len(m.builders)
			m.build(sym)
		}
	}
	number := 0
	for sym, s := range m.n.Syms {
		if s.Kind != api.SymProc {
			continue
		}
		if !m.fits(number) || !m.proc(sym, number) {
			return api.Model{}, api.ErrStatic, s.Node
		}
		number++
	}
	return m.m, api.OK, 0
}

// channels makes the shapes, and the channels that there are at first.
func (m *maker) channels() {
	for node, x := range m.t {
		if x.Kind != api.DChan {
			continue
		}
		s := api.Shape{Room: int(x.N)}
		for _, k := range x.Kids {
			ty, _ := types.Of(int(m.t[k].N), 0)
			s.Fields = append(s.Fields, ty)
		}
		m.shapes[node] = len(m.m.Shapes)
		m.m.Shapes = append(m.m.Shapes, s)
	}
	for sym, s := range m.n.Syms {
		if s.Kind != api.SymVar || s.Owner >= 0 {
			continue
		}
		if kids := m.t[s.Node].Kids; len(kids) > 0 && m.t[kids[0]].Kind == api.DChan {
			for range max(1, m.y.Lays[sym].Len) {
				m.m.Chans = append(m.m.Chans, m.shapes[kids[0]])
			}
		}
	}
}

// build makes the places of a proctype, start (0) and final (1) first, and numbers them.
func (m *maker) build(sym int) {
	b := &builder{maker: m, labels: map[int]int{}}
	start, final := b.place(around{}), b.place(around{})
	b.row(last(m.t[m.n.Syms[sym].Node]), start, final, true, around{})
	var more []int
	for label, s := range m.n.Syms {
		if s.Kind == api.SymLabel && s.Owner == sym {
			more = append(more, b.labels[label])
		}
	}
	order, numbers := meet(len(b.places), b.resolved(start), final, more, func(place int, visit func(int)) {
		b.each(place, func(w way) { visit(b.resolved(w.to)) })
	})
	m.builders = append(m.builders, b)
	m.orders = append(m.orders, order)
	m.numbers = append(m.numbers, numbers)
}

func last(x api.Node) int { return x.Kids[len(x.Kids)-1] }

func (b *builder) each(place int, do func(way)) {
	l := b.places[place]
	for _, w := range l.out {
		do(w)
	}
	for _, esc := range l.esc {
		for _, w := range esc {
			do(w)
		}
	}
}

// fits tells whether a proctype has no more places and ways than it may have.
func (m *maker) fits(number int) bool {
	ways := 0
	for _, place := range m.orders[number] {
		l := m.builders[number].places[place]
		ways += len(l.out)
		for _, esc := range l.esc {
			ways += len(esc)
		}
	}
	return len(m.orders[number]) <= api.MaxLocs && ways <= api.MaxTrans
}

// proc makes a proctype of places that are built; false: there are too many expressions.
func (m *maker) proc(sym, number int) (ok bool) {
	defer func() {
		if _, many := recover().(tooMany); many {
			ok = false
		}
	}()
	x := m.t[m.n.Syms[sym].Node]
	b, numbers := m.builders[number], m.numbers[number]
	p := api.Proc{Name: m.n.Syms[sym].Name, Frame: slices.Clone(m.y.Frames[sym]), Init: slices.Clone(m.y.Inits[sym]), Prio: 1, Provided: -1}
	p.Start, p.Final = numbers[b.resolved(0)], numbers[1]
	switch x.Kind {
	case api.MProc:
		p.Active = int(x.N)
	case api.MInit:
		p.Active = 1
	case api.MNever:
		m.m.Claim = number
	}
	if x.Kind != api.MNever {
		head := m.t[x.Kids[0]]
		p.Prio = max(1, int(head.N))
		for _, d := range head.Kids {
			p.Params += len(m.t[d].Kids) - 1
		}
	}
	if len(x.Kids) == 3 {
		p.Provided = m.expr(x.Kids[1])
	}
	for _, place := range m.orders[number] {
		p.Locs = append(p.Locs, m.loc(b, numbers, b.places[place]))
	}
	m.m.Procs = append(m.m.Procs, p)
	return true
}

// loc makes a place whose ways lead to places by their numbers.
func (m *maker) loc(b *builder, numbers []int, l place) api.Loc {
	ways := func(from []way) []api.Trans {
		var out []api.Trans
		for _, w := range from {
			out = append(out, api.Trans{S: m.stmt(w.do), To: numbers[b.resolved(w.to)], Line: w.line})
		}
		return out
	}
	out := api.Loc{Atomic: l.atomic, Dstep: l.dstep, End: l.end, Accept: l.accept, Progress: l.progress}
	out.Out = ways(l.out)
	for _, esc := range l.esc {
		out.Esc = append(out.Esc, ways(esc))
	}
	return out
}
