package types

import (
	"spinneret/api"
	"spinneret/value"
)

// fault is what is wrong, and at which node: it is thrown, and caught at the face.
type fault struct {
	e    api.Errno
	node int
}

func fail(e api.Errno, node int) { panic(fault{e, node}) }

// many stands for all numbers of slots that are far too great: so none goes round.
const many = 1 << 20

// endless is the size of a typedef that has itself in it, or one that has.
const endless = -1

// layer lays out variables.
type layer struct {
	t api.Tree
	n api.Names
	y api.Layout
	// types: of each DVar its DType.
	types []int
	// params: of each DVar whether it is one of an MHead.
	params []bool
	// up: of each node the one that has it, and as which of its Kids.
	up, rank []int
	// fields: of each SymDef its fields, in order.
	fields map[int][]int
	size   func(def int) int
	// ends: of each owner (its symbol, and 1 more) the slots of what was laid.
	ends []int
}

func newLayer(t api.Tree, n api.Names) *layer {
	l := &layer{t: t, n: n, types: make([]int, len(t)), params: make([]bool, len(t)), up: make([]int, len(t)), rank: make([]int, len(t)), fields: map[int][]int{}, ends: make([]int, len(n.Syms)+1)}
	l.y.Lays = make([]api.Lay, len(n.Syms))
	l.y.Uses = make([]api.Use, len(t))
	for i, x := range t {
		for r, k := range x.Kids {
			l.up[k], l.rank[k] = i, r
		}
		if x.Kind == api.DDecl {
			for _, v := range x.Kids[1:] {
				l.types[v] = x.Kids[0]
			}
		}
		if x.Kind == api.MHead {
			for _, d := range x.Kids {
				for _, v := range t[d].Kids[1:] {
					l.params[v] = true
				}
			}
		}
	}
	for sym, s := range n.Syms {
		if s.Kind == api.SymField {
			l.fields[s.Owner] = append(l.fields[s.Owner], sym)
		}
	}
	l.size = l.sizes()
	return l
}

// sizes makes what tells the size of a typedef: many at most; or endless.
func (l *layer) sizes() func(def int) int {
	known := map[int]int{}
	var size func(def int) int
	size = func(def int) int {
		if s, ok := known[def]; ok {
			return s
		}
		known[def] = endless
		sum := 0
		for _, f := range l.fields[def] {
			one := 1
			if d := l.def(f); d >= 0 {
				one = size(d)
			}
			if one == endless {
				return endless
			}
			sum = min(sum+one*max(1, l.length(f)), many)
		}
		known[def] = sum
		return sum
	}
	return size
}

func (l *layer) typeNode(sym int) int { return l.types[l.n.Syms[sym].Node] }

// def is the typedef of a variable or a field; -1: it is of none.
func (l *layer) def(sym int) int { return l.n.Of[l.typeNode(sym)] }

func (l *layer) unsigned(sym int) bool { return l.t[l.typeNode(sym)].N == api.TyUnsigned }

// length is how many elements a variable's or a field's array has; 0: it is none.
func (l *layer) length(sym int) int {
	if l.unsigned(sym) {
		return 0
	}
	return int(l.t[l.n.Syms[sym].Node].N)
}

// symbol lays a variable or a field.
func (l *layer) symbol(sym int) {
	s := l.n.Syms[sym]
	if s.Kind != api.SymVar && s.Kind != api.SymField {
		return
	}
	l.checkSymbol(sym)
	v := l.t[s.Node]
	y := api.Lay{Type: int(l.t[l.typeNode(sym)].N), Def: l.def(sym), Len: l.length(sym), Size: 1, Slot: l.ends[s.Owner+1]}
	if l.unsigned(sym) {
		y.Bits = int(v.N)
	}
	if y.Def >= 0 {
		y.Size = l.size(y.Def)
		if y.Size == endless {
			fail(api.ErrType, l.typeNode(sym))
		}
	}
	end := y.Slot + y.Size*max(1, y.Len)
	if end > api.MaxSlots {
		fail(api.ErrStatic, s.Node)
	}
	l.ends[s.Owner+1] = end
	l.y.Lays[sym] = y
}

// checkSymbol looks at what a declaration says by itself.
func (l *layer) checkSymbol(sym int) {
	s := l.n.Syms[sym]
	v := l.t[s.Node]
	if l.unsigned(sym) && v.N > 32 || l.length(sym) > api.MaxSlots {
		fail(api.ErrStatic, s.Node)
	}
	param, init, def := l.params[s.Node], len(v.Kids) > 0, l.def(sym) >= 0
	if init && (s.Kind == api.SymField || param || def) || param && (l.length(sym) > 0 || def) {
		fail(api.ErrType, s.Node)
	}
}

// slots tells what stands in each slot at first.
func (l *layer) slots() {
	l.y.Frames = make([][]api.Type, len(l.n.Syms))
	l.y.Inits = make([][]int64, len(l.n.Syms))
	chans := int64(0)
	for sym, s := range l.n.Syms {
		if s.Kind != api.SymVar {
			continue
		}
		types, init := &l.y.Globals, &l.y.Init
		if s.Owner >= 0 {
			types, init = &l.y.Frames[s.Owner], &l.y.Inits[s.Owner]
		}
		from := len(*types)
		*types = l.typesOf(*types, sym)
		first, isChan := l.first(sym)
		for _, ty := range (*types)[from:] {
			v := value.Fit(ty, first)
			if isChan && s.Owner < 0 {
				chans++
				v = chans
			}
			*init = append(*init, v)
		}
	}
}

// typesOf puts the types of a variable's or a field's slots behind others.
func (l *layer) typesOf(types []api.Type, sym int) []api.Type {
	y := l.y.Lays[sym]
	for range max(1, y.Len) {
		if y.Def < 0 {
			ty, _ := Of(y.Type, y.Bits)
			types = append(types, ty)
			continue
		}
		for _, f := range l.fields[y.Def] {
			types = l.typesOf(types, f)
		}
	}
	return types
}

// first is the number of a variable's init (0: it has none); true: that is a channel's.
func (l *layer) first(sym int) (int64, bool) {
	v := l.t[l.n.Syms[sym].Node]
	if len(v.Kids) == 0 {
		return 0, false
	}
	if l.t[v.Kids[0]].Kind == api.DChan {
		return 0, true
	}
	n, _ := constant(l.t, l.n, v.Kids[0])
	return n, false
}
