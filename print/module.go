package print

import "spinneret/api"

func (p *printer) all(n api.Node) {
	for _, k := range n.Kids {
		p.node(k)
		p.line()
	}
}

func (p *printer) typedef(n api.Node) {
	p.word("typedef")
	p.space(" ")
	p.name(n.Text)
	p.space(" ")
	p.mark("{")
	p.space(" ")
	p.list(n.Kids, ";")
	p.space(" ")
	p.mark("}")
}

func (p *printer) mtype(n api.Node) {
	p.word("mtype")
	p.space(" ")
	p.mark("=")
	p.space(" ")
	p.mark("{")
	p.space(" ")
	p.list(n.Kids, ",")
	p.space(" ")
	p.mark("}")
}

func (p *printer) nameOf(n api.Node) { p.name(n.Text) }

func (p *printer) proctype(n api.Node) {
	if n.N != 0 {
		p.word("active")
		p.space(" ")
	}
	if n.N > 1 {
		p.mark("[")
		p.number(n.N)
		p.mark("]")
		p.space(" ")
	}
	p.word("proctype")
	p.space(" ")
	p.name(n.Text)
	head := p.t[p.kid(n, 0)]
	p.mark("(")
	p.list(head.Kids, ";")
	p.mark(")")
	p.priority(head)
	if len(n.Kids) > 2 {
		p.space(" ")
		p.word("provided")
		p.space(" ")
		p.mark("(")
		p.node(p.kid(n, 1))
		p.mark(")")
	}
	p.space(" ")
	p.block(p.kid(n, len(n.Kids)-1))
}

func (p *printer) priority(head api.Node) {
	if head.N != 0 {
		p.space(" ")
		p.word("priority")
		p.space(" ")
		p.number(head.N)
	}
}

func (p *printer) initial(n api.Node) {
	p.word("init")
	p.priority(p.t[p.kid(n, 0)])
	p.space(" ")
	p.block(p.kid(n, 1))
}

func (p *printer) never(n api.Node) {
	p.word("never")
	p.space(" ")
	if n.Text != "" {
		p.name(n.Text)
		p.space(" ")
	}
	p.block(p.kid(n, 0))
}

func (p *printer) decl(n api.Node) {
	switch n.N {
	case 0:
	case 1:
		p.word("hidden")
		p.space(" ")
	case 2:
		p.word("show")
		p.space(" ")
	case 3:
		p.word("local")
		p.space(" ")
	default:
		panic(fault{})
	}
	ty := p.kid(n, 0)
	p.node(ty)
	p.space(" ")
	p.bits = p.t[ty].N == api.TyUnsigned
	p.list(n.Kids[1:], ",")
}

func (p *printer) typeName(n api.Node) {
	if n.N == api.TyDef {
		p.name(n.Text)
		return
	}
	p.word(typeWord(n.N))
}

func typeWord(n int64) string {
	switch n {
	case api.TyBit:
		return "bit"
	case api.TyBool:
		return "bool"
	case api.TyByte:
		return "byte"
	case api.TyShort:
		return "short"
	case api.TyInt:
		return "int"
	case api.TyUnsigned:
		return "unsigned"
	case api.TyMtype:
		return "mtype"
	case api.TyPid:
		return "pid"
	case api.TyChan:
		return "chan"
	}
	return ""
}

func (p *printer) variable(n api.Node) {
	p.name(n.Text)
	if p.bits {
		p.space(" ")
		p.mark(":")
		p.space(" ")
		p.number(n.N)
	} else if n.N != 0 {
		p.mark("[")
		p.number(n.N)
		p.mark("]")
	}
	if len(n.Kids) > 0 {
		p.space(" ")
		p.mark("=")
		p.space(" ")
		p.node(n.Kids[0])
	}
}

func (p *printer) channel(n api.Node) {
	p.mark("[")
	p.number(n.N)
	p.mark("]")
	p.space(" ")
	p.word("of")
	p.space(" ")
	p.mark("{")
	p.space(" ")
	p.list(n.Kids, ",")
	p.space(" ")
	p.mark("}")
}
