package types

import "spinneret/api"

// node looks at a node, and says its use, if it is a reference.
func (l *layer) node(node int) {
	x := l.t[node]
	switch x.Kind {
	case api.DChan:
		l.channel(node)
	case api.DVar:
		if len(x.Kids) > 0 && l.t[x.Kids[0]].Kind != api.DChan {
			if _, ok := constant(l.t, l.n, x.Kids[0]); !ok {
				fail(api.ErrType, x.Kids[0])
			}
		}
	case api.ERef:
		if l.n.Of[node] >= 0 {
			l.y.Uses[node] = l.use(node)
			l.stands(node)
		}
	case api.ERun:
		if len(x.Kids) != l.parameters(l.n.Of[node]) {
			fail(api.ErrType, node)
		}
	}
}

func (l *layer) channel(node int) {
	x := l.t[node]
	if x.N > api.MaxRoom || len(x.Kids) > api.MaxFields {
		fail(api.ErrStatic, node)
	}
	for _, k := range x.Kids {
		if l.t[k].N == api.TyUnsigned || l.t[k].N == api.TyDef {
			fail(api.ErrType, k)
		}
	}
}

func (l *layer) parameters(proc int) int {
	count := 0
	for _, d := range l.t[l.t[l.n.Syms[proc].Node].Kids[0]].Kids {
		count += len(l.t[d].Kids) - 1
	}
	return count
}

// use is that of a reference: of a variable, and then of each field.
func (l *layer) use(node int) api.Use {
	sym := l.n.Of[node]
	x := l.t[node]
	if l.n.Syms[sym].Kind == api.SymMtype {
		if x.N != 0 {
			fail(api.ErrType, node)
		}
		return api.Use{Scope: 3, Type: api.TyMtype}
	}
	u := api.Use{Scope: api.Local}
	if l.remote(node) {
		u.Scope = api.Remote
	} else if l.n.Syms[sym].Owner < 0 {
		u.Scope = api.Global
	}
	at := node
	for {
		x, y := l.t[at], l.y.Lays[sym]
		next := l.part(at, y)
		u.Slot += y.Slot
		if x.N&1 != 0 {
			u.Dims = append(u.Dims, api.Index{Node: x.Kids[0], Len: y.Len, Stride: y.Size})
		}
		if next < 0 {
			open := y.Len > 0 && x.N&1 == 0
			u.Type, u.Bits, u.Whole = y.Type, y.Bits, open || y.Type == api.TyDef
			if open {
				u.Len = y.Len
			}
			break
		}
		at = next
		if sym = l.field(y.Def, l.t[at].Text); sym < 0 {
			fail(api.ErrName, at)
		}
	}
	if len(u.Dims) > api.MaxDims {
		fail(api.ErrStatic, node)
	}
	return u
}

// part looks at a variable or a field of a reference by itself: the place of the field behind it; -1: none.
func (l *layer) part(node int, y api.Lay) int {
	x := l.t[node]
	indexed := x.N&1 != 0
	if indexed && y.Len == 0 {
		fail(api.ErrType, node)
	}
	if x.N&2 == 0 {
		return -1
	}
	if y.Type != api.TyDef || y.Len > 0 && !indexed {
		fail(api.ErrType, node)
	}
	return x.Kids[len(x.Kids)-1]
}

// field is the symbol of a typedef's field; -1: there is none.
func (l *layer) field(def int, name string) int {
	for _, f := range l.fields[def] {
		if l.n.Syms[f].Name == name {
			return f
		}
	}
	return -1
}

func (l *layer) remote(node int) bool {
	return l.t[l.up[node]].Kind == api.ERemote && l.rank[node] == 1
}

// stands looks at whether a reference may stand where it does.
func (l *layer) stands(node int) {
	u := l.y.Uses[node]
	mtype := u.Scope == 3
	wrong := u.Whole
	rank := l.rank[node]
	switch l.t[l.up[node]].Kind {
	case api.ECall:
		wrong = u.Type != api.TyChan || u.Whole || mtype
	case api.EPoll, api.PSend, api.PRecv:
		if rank == 0 {
			wrong = u.Type != api.TyChan || u.Whole || mtype
		}
	case api.PForIn:
		if rank == 0 {
			wrong = u.Whole || mtype
		} else if rank == 1 {
			wrong = !u.Whole || u.Len == 0 || u.Type == api.TyDef
		}
	case api.PSet, api.PStep, api.PFor, api.PSelect:
		if rank == 0 {
			wrong = u.Whole || mtype
		}
	case api.PMark:
		wrong = false
	}
	if wrong {
		fail(api.ErrType, node)
	}
}
