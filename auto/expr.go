package auto

import "spinneret/api"

func plain(op int) api.Expr { return api.Expr{Op: op, A: -1, B: -1, C: -1} }

// add puts an expression behind its parts, and tells its place.
func (m *maker) add(x api.Expr) int {
	if len(m.m.Exprs) == api.MaxExprs {
		panic(tooMany{})
	}
	m.m.Exprs = append(m.m.Exprs, x)
	return len(m.m.Exprs) - 1
}

func (m *maker) number(n int64) int {
	x := plain(api.XNum)
	x.N = n
	return m.add(x)
}

func (m *maker) two(op, a, b int) int {
	x := plain(op)
	x.A, x.B = a, b
	return m.add(x)
}

func (m *maker) operand(o operand) int {
	if o.node < 0 {
		return m.number(o.n)
	}
	return m.expr(o.node)
}

func (m *maker) exprs(nodes []int) []int {
	var out []int
	for _, k := range nodes {
		out = append(out, m.expr(k))
	}
	return out
}

// expr makes an expression, its parts ahead of it.
func (m *maker) expr(node int) int {
	n := m.t[node]
	x := plain(int(n.N))
	switch n.Kind {
	case api.ENum:
		return m.number(n.N)
	case api.ERef:
		return m.ref(node, -1, -1)
	case api.ERemote:
		who := m.expr(n.Kids[0])
		return m.ref(n.Kids[1], who, m.procs[m.n.Of[node]])
	case api.EUn, api.ECall, api.EAsk:
		x.A = m.expr(n.Kids[0])
	case api.EBin:
		x.A = m.expr(n.Kids[0])
		x.B = m.expr(n.Kids[1])
	case api.ECond:
		x.Op = api.XIf
		x.A = m.expr(n.Kids[0])
		x.B = m.expr(n.Kids[1])
		x.C = m.expr(n.Kids[2])
	case api.EPoll:
		x.Op, x.N, x.A = api.XPoll, n.N, m.expr(n.Kids[0])
		x.Args, x.Match = m.received(n.Kids[1:])
	case api.EAt:
		proc := m.procs[m.n.Of[node]]
		place := m.builders[proc].labels[m.n.Of[n.Kids[1]]]
		x.Op, x.N, x.A = api.XAt, int64(proc), m.expr(n.Kids[0])
		x.Args = []int{m.numbers[proc][place]}
	case api.ERun:
		x.Op, x.N = api.XRun, int64(m.procs[m.n.Of[node]])
		x.Args = m.exprs(n.Kids)
	}
	return m.add(x)
}

// ref makes a reference, of the process who of the proctype typ, if it is remote.
func (m *maker) ref(node, who, typ int) int {
	if sym := m.n.Of[node]; m.n.Syms[sym].Kind == api.SymMtype {
		return m.number(m.n.Syms[sym].N)
	}
	use := m.y.Uses[node]
	x := plain(api.XVar)
	x.V = api.Var{Scope: use.Scope, Slot: use.Slot, Who: who, Type: typ}
	for _, d := range use.Dims {
		x.V.Dims = append(x.V.Dims, api.Dim{I: m.expr(d.Node), Len: d.Len, Stride: d.Stride})
	}
	return m.add(x)
}

// received makes what stands in a receive, or a poll: the values, and which of them have to match.
func (m *maker) received(nodes []int) ([]int, []int) {
	var args, match []int
	for _, k := range nodes {
		x := m.t[k]
		switch {
		case x.Kind == api.AEval:
			args, match = append(args, m.expr(x.Kids[0])), append(match, 1)
		case x.Kind == api.AAny:
			args, match = append(args, m.number(0)), append(match, -1)
		case x.Kind == api.ENum || m.n.Syms[m.n.Of[k]].Kind == api.SymMtype:
			args, match = append(args, m.expr(k)), append(match, 1)
		default:
			args, match = append(args, m.expr(k)), append(match, 0)
		}
	}
	return args, match
}
