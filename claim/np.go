package claim

import (
	"slices"

	"spinneret/api"
	"spinneret/good"
)

// Np is a model with the claim of non-progress.
func Np(m api.Model) (api.Model, api.Errno) {
	if err, _, _ := good.Check(m); err != api.OK {
		return api.Model{}, err
	}
	if m.Claim >= 0 {
		return api.Model{}, api.ErrMode
	}
	if len(m.Procs) == api.MaxTypes || len(m.Exprs) == api.MaxExprs {
		return api.Model{}, api.ErrFull
	}
	m = copied(m)
	np := len(m.Exprs)
	m.Exprs = append(m.Exprs, api.Expr{Op: api.XNp, A: -1, B: -1, C: -1})
	skip := func(to int) api.Trans { return api.Trans{S: api.Stmt{Kind: api.SSkip, A: -1, B: -1}, To: to} }
	ask := func(to int) api.Trans { return api.Trans{S: api.Stmt{Kind: api.SExpr, A: np, B: -1}, To: to} }
	m.Claim = len(m.Procs)
	m.Procs = append(m.Procs, api.Proc{Name: "np", Prio: 1, Provided: -1, Start: 0, Final: 2, Locs: []api.Loc{
		{Out: []api.Trans{skip(0), ask(1)}},
		{Out: []api.Trans{ask(1)}, Accept: true},
		{},
	}})
	return m, api.OK
}

// each copies a list, and then each element's own lists.
func each[T any](l []T, inner func(*T)) []T {
	l = slices.Clone(l)
	for i := range l {
		inner(&l[i])
	}
	return l
}

// copied is a model in memory of its own.
func copied(m api.Model) api.Model {
	m.Globals, m.Init, m.Chans = slices.Clone(m.Globals), slices.Clone(m.Init), slices.Clone(m.Chans)
	m.Shapes = each(m.Shapes, func(s *api.Shape) { s.Fields = slices.Clone(s.Fields) })
	m.Exprs = each(m.Exprs, func(x *api.Expr) {
		x.V.Dims, x.Args, x.Match = slices.Clone(x.V.Dims), slices.Clone(x.Args), slices.Clone(x.Match)
	})
	ways := func(l []api.Trans) []api.Trans {
		return each(l, func(w *api.Trans) { w.S.Args, w.S.Match = slices.Clone(w.S.Args), slices.Clone(w.S.Match) })
	}
	m.Procs = each(m.Procs, func(p *api.Proc) {
		p.Frame, p.Init = slices.Clone(p.Frame), slices.Clone(p.Init)
		p.Locs = each(p.Locs, func(l *api.Loc) {
			l.Out = ways(l.Out)
			l.Esc = each(l.Esc, func(esc *[]api.Trans) { *esc = ways(*esc) })
		})
	})
	return m
}
