package rules

import "spinneret/api"

// rules are those of each kind of nodes, in the order in which they are asked.
func (c *checker) rules() map[int][]rule {
	at := func(node int) place { return c.places[node] }
	inNever := rule{api.ErrRule, func(node int) bool { return at(node).never }}
	first := rule{api.ErrRule, func(node int) bool { return at(node).first }}
	manyFields := rule{api.ErrStatic, func(node int) bool { return len(c.t[node].Kids)-1 > api.MaxFields }}
	manyProcs := rule{api.ErrStatic, func(node int) bool { return c.procsUpTo(node) > api.MaxTypes }}
	inDstep := rule{api.ErrRule, func(node int) bool { return at(node).dstep >= 0 }}
	manyUnless := rule{api.ErrStatic, func(node int) bool { return at(node).unless >= 8 }}
	never := []rule{inNever}
	fields := []rule{manyFields, inNever}
	procs := []rule{manyProcs}
	return map[int][]rule{
		api.PElse:   {{api.ErrRule, c.elseIsWrong}},
		api.PLabel:  {first},
		api.PBreak:  {{api.ErrRule, func(node int) bool { return at(node).loop < 0 || at(node).dstep != at(at(node).loop).dstep }}},
		api.PGoto:   {{api.ErrRule, func(node int) bool { return at(node).dstep != at(c.n.Syms[c.n.Of[node]].Node).dstep }}},
		api.PUnless: {first, inDstep, manyUnless, inNever},
		api.ERun:    {{api.ErrRule, c.runIsWrong}},
		api.EKey:    {{api.ErrRule, c.keyIsWrong}},
		api.PSend:   fields,
		api.PRecv:   fields,
		api.EPoll:   {manyFields},
		api.PPrint:  {{api.ErrRule, c.printIsWrong}, inNever},
		api.DDecl:   never, api.PSet: never, api.PStep: never, api.PFor: never, api.PForIn: never,
		api.PSelect: never, api.PAtomic: never, api.PDstep: never,
		api.MProc: procs, api.MInit: procs, api.MNever: procs,
		api.MAll: {{api.ErrRule, c.noneBegins}, {api.ErrStatic, c.tooMuch}},
	}
}

func (c *checker) elseIsWrong(node int) bool {
	p := c.places[node]
	if p.rank != 0 || c.t[p.up].Kind != api.DSeq || !c.isOption(p.up) {
		return true
	}
	choice := c.places[p.up].up
	if c.places[choice].first {
		return true
	}
	for _, option := range c.t[choice].Kids {
		if option == p.up {
			break
		}
		if c.t[c.t[option].Kids[0]].Kind == api.PElse {
			return true
		}
	}
	return false
}

func (c *checker) runIsWrong(node int) bool {
	p := c.places[node]
	up := c.t[p.up].Kind
	return p.never || up != api.PExpr && (up != api.PSet || p.rank != 1)
}

func (c *checker) keyIsWrong(node int) bool {
	p := c.places[node]
	switch c.t[node].N {
	case api.XNp:
		return !p.never
	case api.XPid:
		return p.never || p.provided
	}
	return false
}

func (c *checker) printIsWrong(node int) bool {
	x := c.t[node]
	if x.N != 0 {
		return false
	}
	count := 0
	for i := 0; i < len(x.Text); i++ {
		if x.Text[i] != '%' {
			continue
		}
		i++
		if i == len(x.Text) {
			return true
		}
		switch x.Text[i] {
		case 'd', 'c', 'x', 'e', 'u':
			count++
		case '%':
		default:
			return true
		}
	}
	return count != len(x.Kids)
}

// procsUpTo is how many proctypes there are up to one.
func (c *checker) procsUpTo(node int) int {
	count := 0
	for _, m := range c.t[len(c.t)-1].Kids {
		switch c.t[m].Kind {
		case api.MProc, api.MInit, api.MNever:
			count++
		}
		if m == node {
			break
		}
	}
	return count
}

func (c *checker) noneBegins(all int) bool { return c.active(all) == 0 }

// active is how many processes there are at first.
func (c *checker) active(all int) int {
	count := 0
	for _, m := range c.t[all].Kids {
		switch c.t[m].Kind {
		case api.MProc:
			count += int(c.t[m].N)
		case api.MInit:
			count++
		}
	}
	return count
}

func (c *checker) tooMuch(all int) bool {
	shapes, chans := 0, 0
	for _, x := range c.t {
		if x.Kind == api.DChan {
			shapes++
		}
	}
	for sym, s := range c.n.Syms {
		if s.Kind == api.SymVar && s.Owner < 0 && c.makesChannel(s.Node) {
			chans += max(1, c.y.Lays[sym].Len)
		}
	}
	return c.active(all) > api.MaxProcs || chans > api.MaxChans || shapes > api.MaxChans
}
