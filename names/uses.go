package names

import "spinneret/api"

// module looks at all uses of names in a module.
func (f *finder) module(node int) {
	n := f.t[node]
	if !isProc(n.Kind) {
		f.uses(node, f.globals, -1)
		return
	}
	owner := f.of[node]
	sc := f.within(f.globals)
	last := len(n.Kids) - 1
	for i, k := range n.Kids {
		switch {
		case i == last:
			f.all(f.t[k].Kids, sc, owner)
		case f.t[k].Kind == api.MHead:
			f.uses(k, sc, owner)
		default:
			f.uses(k, f.globals, owner)
		}
	}
}

func (f *finder) within(sc *scope) *scope {
	return &scope{up: sc, vars: map[string]int{}}
}

func (f *finder) all(nodes []int, sc *scope, owner int) {
	for _, k := range nodes {
		f.uses(k, sc, owner)
	}
}

// uses looks at a node ahead of its Kids, as it is seen in a scope of the proctype owner.
func (f *finder) uses(node int, sc *scope, owner int) {
	n := f.t[node]
	switch n.Kind {
	case api.DSeq:
		sc = f.within(sc)
	case api.DType:
		if n.N == api.TyDef {
			f.use(node, f.named(n.Text, api.SymDef))
		}
	case api.ERef:
		f.use(node, f.seen(n.Text, sc))
		f.inRef(n, sc, owner)
		return
	case api.ERun:
		f.use(node, f.proctype(n.Text))
	case api.EAt:
		proc := f.proctype(n.Text)
		f.use(node, proc)
		f.uses(n.Kids[0], sc, owner)
		f.use(n.Kids[1], f.ownedBy(proc, api.SymLabel, f.t[n.Kids[1]].Text))
		return
	case api.ERemote:
		proc := f.proctype(n.Text)
		f.use(node, proc)
		f.uses(n.Kids[0], sc, owner)
		f.use(n.Kids[1], f.ownedBy(proc, api.SymVar, f.t[n.Kids[1]].Text))
		f.inRef(f.t[n.Kids[1]], sc, owner)
		return
	case api.PGoto:
		f.use(node, f.ownedBy(owner, api.SymLabel, n.Text))
	}
	f.all(n.Kids, sc, owner)
	if n.Kind == api.DVar && sc != f.globals {
		sc.vars[n.Text] = f.of[node]
	}
}

// use says which symbol a node uses; -1: it means nothing.
func (f *finder) use(node, sym int) {
	if sym < 0 {
		panic(fault{api.ErrName, node})
	}
	f.of[node] = sym
}

// inRef looks at the indexes of a reference and its fields.
func (f *finder) inRef(n api.Node, sc *scope, owner int) {
	next := 0
	if n.N&1 != 0 {
		f.uses(n.Kids[0], sc, owner)
		next = 1
	}
	if n.N&2 != 0 {
		f.inRef(f.t[n.Kids[next]], sc, owner)
	}
}

// seen is the variable, or the number's name, that is seen in a scope; -1: none.
func (f *finder) seen(name string, sc *scope) int {
	for ; sc != nil; sc = sc.up {
		if sym, there := sc.vars[name]; there {
			if kind := f.syms[sym].Kind; kind == api.SymVar || kind == api.SymMtype {
				return sym
			}
			return -1
		}
	}
	return -1
}

// named is the global symbol of a name, if it is of that kind; else -1.
func (f *finder) named(name string, kind int) int {
	if sym, there := f.globals.vars[name]; there && f.syms[sym].Kind == kind {
		return sym
	}
	return -1
}

// proctype is the SymProc of a name: init and never are words, and so no names that are used.
func (f *finder) proctype(name string) int { return f.named(name, api.SymProc) }

func (f *finder) ownedBy(owner, kind int, name string) int {
	if sym, there := f.owned[owned{kind, owner, name}]; there {
		return sym
	}
	return -1
}
