package auto

import "spinneret/api"

// stmt makes what a way does: its expressions stand behind those that there are.
func (m *maker) stmt(do any) api.Stmt {
	s := api.Stmt{A: -1, B: -1}
	switch d := do.(type) {
	case skips:
		s.Kind = api.SSkip
	case otherwise:
		s.Kind = api.SElse
	case sets:
		s.Kind, s.A = api.SSet, m.expr(d.ref)
		s.B = m.operand(d.to)
	case tests:
		s.Kind = api.SExpr
		a := m.expr(d.ref)
		s.A = m.two(d.op, a, m.operand(d.to))
	case counts:
		s.Kind, s.A = api.SSet, m.expr(d.ref)
		a := m.expr(d.ref)
		s.B = m.two(api.XAdd, a, m.number(1))
	case opens:
		s.Kind, s.N = api.SChan, d.shape
		v := plain(api.XVar)
		v.V = api.Var{Scope: api.Local, Slot: d.slot, Who: -1, Type: -1}
		s.A = m.add(v)
	case does:
		m.written(&s, m.t[d.node])
	}
	return s
}

// written makes a statement as its node says it.
func (m *maker) written(s *api.Stmt, x api.Node) {
	switch x.Kind {
	case api.PExpr:
		s.Kind = api.SSkip
		if k := m.t[x.Kids[0]]; k.Kind != api.ENum || k.N == 0 {
			s.Kind, s.A = api.SExpr, m.expr(x.Kids[0])
		}
	case api.PSet:
		s.Kind, s.A = api.SSet, m.expr(x.Kids[0])
		s.B = m.expr(x.Kids[1])
	case api.PStep:
		op := api.XAdd
		if x.N < 0 {
			op = api.XSub
		}
		s.Kind, s.A = api.SSet, m.expr(x.Kids[0])
		a := m.expr(x.Kids[0])
		s.B = m.two(op, a, m.number(1))
	case api.PAssert:
		s.Kind, s.A = api.SAssert, m.expr(x.Kids[0])
	case api.PPrint:
		s.Kind, s.Text = api.SPrint, x.Text
		if x.N == 1 {
			s.Text = "%e"
		}
		s.Args = m.exprs(x.Kids)
	case api.PElse:
		s.Kind = api.SElse
	case api.PSend:
		s.Kind, s.N, s.A = api.SSend, int(x.N), m.expr(x.Kids[0])
		s.Args = m.exprs(x.Kids[1:])
	case api.PRecv:
		s.Kind, s.N, s.A = api.SRecv, int(x.N), m.expr(x.Kids[0])
		s.Args, s.Match = m.received(x.Kids[1:])
	}
}
