package print

import "spinneret/api"

func (p *printer) constant(n api.Node) {
	if n.N < 0 {
		p.mark("-")
		p.number(-n.N)
		return
	}
	p.number(n.N)
}

func (p *printer) ref(n api.Node) {
	p.name(n.Text)
	next := 0
	if n.N&1 != 0 {
		p.index(p.kid(n, next))
		next++
	}
	if n.N&2 != 0 {
		p.mark(".")
		p.node(p.kid(n, next))
	}
}

func (p *printer) index(node int) {
	p.brackets("[", func() { p.node(node) }, "]")
}

func (p *printer) round(node int) {
	p.brackets("(", func() { p.node(node) }, ")")
}

func (p *printer) unary(n api.Node) {
	mark := "~"
	switch n.N {
	case api.XNeg:
		mark = "-"
	case api.XNot:
		mark = "!"
	}
	p.mark(mark)
	at := p.kid(n, 0)
	operand := p.t[at]
	if operand.Kind == api.EUn && operand.N == n.N {
		p.space(" ")
	}
	p.operand(at, operand.Kind == api.EBin)
}

func (p *printer) binary(n api.Node) {
	mark, binds := operator(n.N)
	binding := func(at int) int {
		if p.t[at].Kind != api.EBin {
			return 99
		}
		_, b := operator(p.t[at].N)
		return b
	}
	left, right := p.kid(n, 0), p.kid(n, 1)
	p.operand(left, binding(left) < binds)
	p.space(" ")
	p.mark(mark)
	p.space(" ")
	p.operand(right, binding(right) <= binds)
}

func (p *printer) operand(at int, bracketed bool) {
	if bracketed {
		p.round(at)
	} else {
		p.node(at)
	}
}

// operator is the mark of an opcode of two sides, and how much it binds.
func operator(op int64) (string, int) {
	switch op {
	case api.XEither:
		return "||", 1
	case api.XBoth:
		return "&&", 2
	case api.XOr:
		return "|", 3
	case api.XXor:
		return "^", 4
	case api.XAnd:
		return "&", 5
	case api.XEq:
		return "==", 6
	case api.XNe:
		return "!=", 6
	case api.XLt:
		return "<", 7
	case api.XLe:
		return "<=", 7
	case api.XGt:
		return ">", 7
	case api.XGe:
		return ">=", 7
	case api.XShl:
		return "<<", 8
	case api.XShr:
		return ">>", 8
	case api.XAdd:
		return "+", 9
	case api.XSub:
		return "-", 9
	case api.XMul:
		return "*", 10
	case api.XDiv:
		return "/", 10
	case api.XMod:
		return "%", 10
	}
	panic(fault{})
}

func (p *printer) cond(n api.Node) {
	p.brackets("(", func() {
		p.node(p.kid(n, 0))
		p.space(" ")
		p.mark("->")
		p.space(" ")
		p.middle = true
		p.node(p.kid(n, 1))
		p.middle = false
		p.space(" ")
		p.mark(":")
		p.space(" ")
		p.node(p.kid(n, 2))
	}, ")")
}

// opWord is the word of an opcode that is called, or stands alone.
func opWord(op int64) string {
	switch op {
	case api.XLen:
		return "len"
	case api.XFull:
		return "full"
	case api.XEmpty:
		return "empty"
	case api.XNfull:
		return "nfull"
	case api.XNempty:
		return "nempty"
	case api.XEnabled:
		return "enabled"
	case api.XPc:
		return "pc_value"
	case api.XTimeout:
		return "timeout"
	case api.XNp:
		return "np_"
	case api.XPid:
		return "_pid"
	case api.XLast:
		return "_last"
	case api.XNrPr:
		return "_nr_pr"
	}
	return ""
}

func (p *printer) call(n api.Node) {
	p.word(opWord(n.N))
	p.round(p.kid(n, 0))
}

func (p *printer) ask(n api.Node) { p.call(n) }

func (p *printer) key(n api.Node) { p.word(opWord(n.N)) }

func (p *printer) poll(n api.Node) {
	p.node(p.kid(n, 0))
	if n.N == 0 {
		p.mark("?")
	} else {
		p.mark("??")
	}
	p.brackets("[", func() { p.list(n.Kids[1:], ",") }, "]")
}

func (p *printer) at(n api.Node) {
	p.name(n.Text)
	p.index(p.kid(n, 0))
	p.mark("@")
	p.node(p.kid(n, 1))
}

func (p *printer) remote(n api.Node) {
	bare := func() {
		p.name(n.Text)
		p.index(p.kid(n, 0))
		p.mark(":")
		p.node(p.kid(n, 1))
	}
	if p.middle {
		p.brackets("(", bare, ")")
	} else {
		bare()
	}
}

func (p *printer) run(n api.Node) {
	p.word("run")
	p.space(" ")
	p.name(n.Text)
	p.brackets("(", func() { p.list(n.Kids, ",") }, ")")
}

func (p *printer) eval(n api.Node) {
	p.word("eval")
	p.round(p.kid(n, 0))
}

func (p *printer) anything(n api.Node) { p.word("_") }
