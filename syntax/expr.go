package syntax

import "spinneret/api"

// operator is one of two sides: its mark, its opcode, and how much it binds (from 1 on).
type operator struct {
	mark  string
	op    int64
	binds int
}

var operators = [18]operator{
	{"||", api.XEither, 1}, {"&&", api.XBoth, 2}, {"|", api.XOr, 3}, {"^", api.XXor, 4}, {"&", api.XAnd, 5},
	{"==", api.XEq, 6}, {"!=", api.XNe, 6}, {"<", api.XLt, 7}, {"<=", api.XLe, 7}, {">", api.XGt, 7}, {">=", api.XGe, 7},
	{"<<", api.XShl, 8}, {">>", api.XShr, 8}, {"+", api.XAdd, 9}, {"-", api.XSub, 9},
	{"*", api.XMul, 10}, {"/", api.XDiv, 10}, {"%", api.XMod, 10},
}

// operatorOf is the operator that a token is; without a mark: it is none.
func operatorOf(k api.Token) operator {
	if k.Kind == api.TMark {
		for _, o := range operators {
			if o.mark == k.Text {
				return o
			}
		}
	}
	return operator{}
}

func unaryOf(k api.Token) int64 {
	if k.Kind == api.TMark {
		switch k.Text {
		case "-":
			return api.XNeg
		case "!":
			return api.XNot
		case "~":
			return api.XFlip
		}
	}
	return 0
}

func keyOf(k api.Token) int64 {
	if k.Kind == api.TName {
		switch k.Text {
		case "timeout":
			return api.XTimeout
		case "np_":
			return api.XNp
		case "_pid":
			return api.XPid
		case "_last":
			return api.XLast
		case "_nr_pr":
			return api.XNrPr
		}
	}
	return 0
}

func askOf(k api.Token) int64 {
	if k.Kind == api.TName {
		switch k.Text {
		case "enabled":
			return api.XEnabled
		case "pc_value":
			return api.XPc
		}
	}
	return 0
}

func callOf(k api.Token) int64 {
	if k.Kind == api.TName {
		switch k.Text {
		case "len":
			return api.XLen
		case "full":
			return api.XFull
		case "empty":
			return api.XEmpty
		case "nfull":
			return api.XNfull
		case "nempty":
			return api.XNempty
		}
	}
	return 0
}

func (p *parser) any() { p.binary(1) }

// binary reads a row of unaries with operators between that bind at least so much.
func (p *parser) binary(least int) {
	from := p.begin()
	p.unary()
	for {
		k := p.now()
		o := operatorOf(k)
		if o.mark == "" || o.binds < least {
			return
		}
		p.at++
		p.binary(o.binds + 1)
		p.make(api.EBin, k, "", o.op, from)
	}
}

func (p *parser) unary() {
	p.enter()
	defer p.leave()
	k, from := p.now(), p.begin()
	switch {
	case unaryOf(k) != 0:
		p.at++
		p.unary()
		p.make(api.EUn, k, "", unaryOf(k), from)
	case k.Kind == api.TNum, isWord(k, "true"), isWord(k, "false"), isWord(k, "skip"):
		p.constant()
	case isMark(k, "("):
		p.inBrackets(p.bracketed)
	case keyOf(k) != 0:
		p.at++
		p.make(api.EKey, k, "", keyOf(k), from)
	case askOf(k) != 0:
		p.at++
		p.must("(")
		p.inBrackets(p.any)
		p.must(")")
		p.make(api.EAsk, k, "", askOf(k), from)
	case callOf(k) != 0:
		p.at++
		p.must("(")
		p.ref()
		p.must(")")
		p.make(api.ECall, k, "", callOf(k), from)
	case isWord(k, "run"):
		p.inBrackets(p.run)
	default:
		p.place()
	}
}

func (p *parser) constant() {
	k := p.now()
	n := k.N
	if k.Kind == api.TName {
		n = 1
		if k.Text == "false" {
			n = 0
		}
	}
	p.at++
	p.make(api.ENum, k, "", n, p.begin())
}

// bracketed reads what stands in ( ): an expression, or a conditional.
func (p *parser) bracketed() {
	at, from := p.now(), p.begin()
	p.at++
	p.any()
	if !p.takes("->") {
		p.must(")")
		return
	}
	p.middle = true
	p.any()
	p.middle = false
	p.must(":")
	p.any()
	p.must(")")
	p.make(api.ECond, at, "", 0, from)
}

func (p *parser) run() {
	at, from := p.now(), p.begin()
	p.at++
	name := p.name()
	p.must("(")
	if !p.mark(")") {
		p.list(p.any)
	}
	p.must(")")
	p.make(api.ERun, at, name.Text, 0, from)
}

// place reads what begins with a name: a reference, or a poll, or what another process has.
func (p *parser) place() {
	k, from := p.now(), p.begin()
	p.ref()
	last := len(p.t) - 1
	indexed := p.t[last].N == 1
	switch {
	case indexed && p.takes("@"):
		p.unmake()
		label := p.name()
		p.make(api.MName, label, label.Text, 0, p.begin())
		p.make(api.EAt, k, k.Text, 0, from)
	case indexed && !p.middle && p.takes(":"):
		p.unmake()
		p.ref()
		p.make(api.ERemote, k, k.Text, 0, from)
	case p.takes("?"):
		p.poll(k, 0, from)
	case p.takes("??"):
		p.poll(k, 1, from)
	}
}

func (p *parser) poll(at api.Token, n int64, from int) {
	p.must("[")
	p.inBrackets(p.ins)
	p.must("]")
	p.make(api.EPoll, at, "", n, from)
}

func (p *parser) ref() {
	from := p.begin()
	k := p.name()
	n := int64(0)
	if p.takes("[") {
		p.inBrackets(p.any)
		p.must("]")
		n = 1
	}
	if p.takes(".") {
		p.ref()
		n += 2
	}
	p.make(api.ERef, k, k.Text, n, from)
}
