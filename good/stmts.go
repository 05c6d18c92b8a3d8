package good

import "spinneret/api"

// statements looks at what ways do, and at what each proctype uses.
func (c *checker) statements() (int, bool) {
	c.seen = make([]int, len(c.m.Exprs))
	for i := range c.m.Procs {
		p := &c.m.Procs[i]
		for j := range p.Locs {
			l := &p.Locs[j]
			if !c.ways(i, l.Out) {
				return i, false
			}
			for _, esc := range l.Esc {
				if !c.ways(i, esc) {
					return i, false
				}
			}
		}
		if p.Provided >= 0 && !c.uses(i, p.Provided) {
			return i, false
		}
	}
	return 0, true
}

func (c *checker) ways(proc int, l []api.Trans) bool {
	for i := range l {
		s := &l[i].S
		if !c.stmt(s) || proc == c.m.Claim && !claims(s.Kind) || !c.usedBy(proc, s) {
			return false
		}
	}
	return true
}

func claims(kind int) bool {
	return kind == api.SExpr || kind == api.SAssert || kind == api.SElse || kind == api.SSkip
}

// stmt looks at a statement's fields.
func (c *checker) stmt(s *api.Stmt) bool {
	hasA, hasB, mostN, most := true, false, 0, 0
	least, matches, text := 0, false, false
	switch s.Kind {
	case api.SExpr, api.SAssert:
	case api.SSet:
		hasB = true
	case api.SPrint:
		hasA, most, text = false, -1, true
	case api.SSend:
		mostN, least, most = 1, 1, api.MaxFields
	case api.SRecv:
		mostN, least, most, matches = 3, 1, api.MaxFields, true
	case api.SElse, api.SSkip:
		hasA = false
	case api.SChan:
		mostN = len(c.m.Shapes) - 1
	default:
		return false
	}
	if hasA != (s.A != -1) || hasA && !c.isExpr(s.A) || hasB != (s.B != -1) || hasB && !c.isExpr(s.B) {
		return false
	}
	if s.N < 0 || s.N > mostN || len(s.Args) < least || most >= 0 && len(s.Args) > most || !matches && len(s.Match) > 0 || !text && s.Text != "" || len(s.Text) > 256 {
		return false
	}
	for _, x := range s.Args {
		if !c.isExpr(x) {
			return false
		}
	}
	if (s.Kind == api.SSet || s.Kind == api.SChan) && !c.settable(s.A) {
		return false
	}
	return !matches || c.receives(s)
}

func (c *checker) settable(x int) bool {
	return c.isVar(x) && c.m.Exprs[x].V.Scope != api.Remote
}

func (c *checker) receives(s *api.Stmt) bool {
	if !c.fields(s.Args, s.Match) {
		return false
	}
	for i, x := range s.Args {
		if s.Match[i] == 0 && !c.settable(x) {
			return false
		}
	}
	return true
}

// usedBy looks at all that a statement of a proctype uses.
func (c *checker) usedBy(proc int, s *api.Stmt) bool {
	tops := [2]int{s.A, s.B}
	for i, x := range tops {
		if x < 0 {
			continue
		}
		// A run stands only where it is the whole of what is asked, or set.
		whole := s.Kind == api.SExpr && i == 0 || s.Kind == api.SSet && i == 1
		if whole && c.m.Exprs[x].Op == api.XRun && proc != c.m.Claim {
			for _, arg := range c.m.Exprs[x].Args {
				if !c.uses(proc, arg) {
					return false
				}
			}
			continue
		}
		if !c.uses(proc, x) {
			return false
		}
	}
	for _, x := range s.Args {
		if !c.uses(proc, x) {
			return false
		}
	}
	return true
}

// uses looks at an expression that a proctype uses, and all in it: no run may be there.
func (c *checker) uses(proc, top int) bool {
	c.left = append(c.left[:0], top)
next:
	if len(c.left) == 0 {
		return true
	}
	at := c.left[len(c.left)-1]
	c.left = c.left[:len(c.left)-1]
	if c.seen[at] == proc+1 {
		goto next
	}
	c.seen[at] = proc + 1
	x := &c.m.Exprs[at]
	switch x.Op {
	case api.XRun:
		return false
	case api.XPid:
		if proc == c.m.Claim {
			return false
		}
	case api.XVar:
		if !c.lies(proc, x.V) {
			return false
		}
	}
	c.parts(x, func(part int) { c.left = append(c.left, part) })
	goto next
}

// lies tells whether a variable lies within the slots of its scope.
func (c *checker) lies(proc int, v api.Var) bool {
	slots := len(c.m.Globals)
	switch v.Scope {
	case api.Local:
		if proc == c.m.Claim {
			return false
		}
		slots = len(c.m.Procs[proc].Frame)
	case api.Remote:
		slots = len(c.m.Procs[v.Type].Frame)
	}
	return Reach(v) <= slots
}
