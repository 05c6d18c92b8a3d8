package good

import "spinneret/api"

// expressions looks at each by itself, and whether each is a part of one at most.
func (c *checker) expressions() (int, bool) {
	m := c.m
	if len(m.Procs) < 1 || len(m.Procs) > api.MaxTypes || m.Claim < -1 || m.Claim >= len(m.Procs) || len(m.Exprs) > api.MaxExprs {
		return -1, false
	}
	taken := make([]bool, len(m.Exprs))
	for i := range m.Exprs {
		x := &m.Exprs[i]
		if !c.expression(x) {
			return i, false
		}
		ok := true
		c.parts(x, func(part int) {
			if part < 0 || part >= i || taken[part] {
				ok = false
				return
			}
			taken[part] = true
		})
		if !ok {
			return i, false
		}
	}
	return 0, true
}

// partsOf is how many of A, B and C an opcode has.
func partsOf(op int) int {
	switch {
	case op == api.XIf:
		return 3
	case op >= api.XMul && op <= api.XEither:
		return 2
	case op >= api.XNeg && op <= api.XFlip, op >= api.XLen && op <= api.XPoll, op >= api.XEnabled && op <= api.XAt:
		return 1
	}
	return 0
}

// parts hands all parts, indexes and the Who of an expression to do.
func (c *checker) parts(x *api.Expr, do func(part int)) {
	abc := [3]int{x.A, x.B, x.C}
	for i := range partsOf(x.Op) {
		do(abc[i])
	}
	switch x.Op {
	case api.XVar:
		if x.V.Scope == api.Remote {
			do(x.V.Who)
		}
		for i := range x.V.Dims {
			do(x.V.Dims[i].I)
		}
	case api.XPoll, api.XRun:
		for _, part := range x.Args {
			do(part)
		}
	}
}

// expression looks at an expression, but for where its parts stand.
func (c *checker) expression(x *api.Expr) bool {
	if x.Op < api.XNum || x.Op > api.XRun {
		return false
	}
	abc := [3]int{x.A, x.B, x.C}
	for i := partsOf(x.Op); i < 3; i++ {
		if abc[i] != -1 {
			return false
		}
	}
	switch x.Op {
	case api.XNum:
		return Fits(api.Type{Bits: 32, Signed: true}, x.N)
	case api.XVar:
		return c.variable(x.V)
	case api.XPoll:
		return (x.N == 0 || x.N == 1) && c.fields(x.Args, x.Match)
	case api.XAt:
		if !c.proctype(x.N) || len(x.Args) == 0 {
			return false
		}
		for _, place := range x.Args {
			if place < 0 || place >= len(c.m.Procs[x.N].Locs) {
				return false
			}
		}
	case api.XRun:
		return c.proctype(x.N) && len(x.Args) == c.m.Procs[x.N].Params
	}
	return true
}

// proctype tells whether a number is the place of a proctype that isn't the claim.
func (c *checker) proctype(n int64) bool {
	return n >= 0 && n < int64(len(c.m.Procs)) && n != int64(c.m.Claim)
}

func (c *checker) variable(v api.Var) bool {
	if v.Scope < api.Global || v.Scope > api.Remote || v.Slot < 0 || v.Slot > api.MaxSlots || len(v.Dims) > api.MaxDims {
		return false
	}
	for _, d := range v.Dims {
		if d.Len < 1 || d.Len > api.MaxSlots || d.Stride < 0 || d.Stride > api.MaxSlots {
			return false
		}
	}
	if v.Scope == api.Remote {
		return c.proctype(int64(v.Type))
	}
	return v.Who == -1 && v.Type == -1
}

func (c *checker) isExpr(x int) bool { return x >= 0 && x < len(c.m.Exprs) }

func (c *checker) isVar(x int) bool { return c.isExpr(x) && c.m.Exprs[x].Op == api.XVar }

// fields looks at what stands in a receive or a poll.
func (c *checker) fields(args, match []int) bool {
	if len(args) < 1 || len(args) > api.MaxFields || len(match) != len(args) {
		return false
	}
	for i, x := range args {
		if !c.isExpr(x) || match[i] < -1 || match[i] > 1 || match[i] == 0 && !c.isVar(x) {
			return false
		}
	}
	return true
}
