package print

import "spinneret/api"

// block writes a DSeq in { }.
func (p *printer) block(seq int) {
	p.mark("{")
	p.line()
	p.steps(seq)
	p.indent()
	p.mark("}")
}

func (p *printer) steps(seq int) {
	n := p.t[seq]
	if n.Kind != api.DSeq {
		panic(fault{})
	}
	p.deep++
	for i, k := range n.Kids {
		p.indent()
		p.node(k)
		if i < len(n.Kids)-1 {
			p.mark(";")
		}
		p.line()
	}
	p.deep--
}

func (p *printer) options(n api.Node) {
	open, end := "if", "fi"
	if n.Kind == api.PDo {
		open, end = "do", "od"
	}
	p.word(open)
	p.line()
	for _, k := range n.Kids {
		p.indent()
		p.mark("::")
		p.line()
		p.steps(k)
	}
	p.indent()
	p.word(end)
}

func (p *printer) forLoop(n api.Node) {
	p.word("for")
	p.span(n)
	p.space(" ")
	p.block(p.kid(n, 3))
}

func (p *printer) choose(n api.Node) {
	p.word("select")
	p.span(n)
}

// span writes from where to where a variable goes.
func (p *printer) span(n api.Node) {
	p.space(" ")
	p.mark("(")
	p.node(p.kid(n, 0))
	p.space(" ")
	p.mark(":")
	p.space(" ")
	p.node(p.kid(n, 1))
	p.space(" ")
	p.mark("..")
	p.space(" ")
	p.node(p.kid(n, 2))
	p.mark(")")
}

func (p *printer) forIn(n api.Node) {
	p.word("for")
	p.space(" ")
	p.mark("(")
	p.node(p.kid(n, 0))
	p.space(" ")
	p.word("in")
	p.space(" ")
	p.node(p.kid(n, 1))
	p.mark(")")
	p.space(" ")
	p.block(p.kid(n, 2))
}

func (p *printer) blockStep(n api.Node) {
	switch n.Kind {
	case api.PAtomic:
		p.word("atomic")
		p.space(" ")
	case api.PDstep:
		p.word("d_step")
		p.space(" ")
	}
	p.block(p.kid(n, 0))
}

func (p *printer) send(n api.Node) {
	p.node(p.kid(n, 0))
	p.space(" ")
	if n.N == 0 {
		p.mark("!")
	} else {
		p.mark("!!")
	}
	p.space(" ")
	p.list(n.Kids[1:], ",")
}

func (p *printer) receive(n api.Node) {
	p.node(p.kid(n, 0))
	p.space(" ")
	if n.N == 0 || n.N == 2 {
		p.mark("?")
	} else {
		p.mark("??")
	}
	if n.N == 0 || n.N == 1 {
		p.space(" ")
		p.list(n.Kids[1:], ",")
		return
	}
	p.mark("<")
	p.list(n.Kids[1:], ",")
	p.mark(">")
}

func (p *printer) set(n api.Node) {
	p.node(p.kid(n, 0))
	p.space(" ")
	p.mark("=")
	p.space(" ")
	p.node(p.kid(n, 1))
}

func (p *printer) step(n api.Node) {
	p.node(p.kid(n, 0))
	if n.N == 1 {
		p.mark("++")
	} else {
		p.mark("--")
	}
}

func (p *printer) bare(n api.Node) {
	if n.Kind == api.PElse {
		p.word("else")
	} else {
		p.word("break")
	}
}

func (p *printer) jump(n api.Node) {
	p.word("goto")
	p.space(" ")
	p.name(n.Text)
}

func (p *printer) label(n api.Node) {
	p.name(n.Text)
	p.mark(":")
	p.space(" ")
	p.node(p.kid(n, 0))
}

func (p *printer) unless(n api.Node) {
	p.node(p.kid(n, 0))
	p.space(" ")
	p.word("unless")
	p.space(" ")
	p.node(p.kid(n, 1))
}

func (p *printer) printf(n api.Node) {
	if n.N != 0 {
		p.word("printm")
		p.mark("(")
		p.node(p.kid(n, 0))
		p.mark(")")
		return
	}
	p.word("printf")
	p.mark("(")
	p.quoted(n.Text)
	for _, k := range n.Kids {
		p.mark(",")
		p.space(" ")
		p.node(k)
	}
	p.mark(")")
}

func (p *printer) assert(n api.Node) {
	p.word("assert")
	p.space(" ")
	p.node(p.kid(n, 0))
}

func (p *printer) expression(n api.Node) { p.node(p.kid(n, 0)) }

func (p *printer) marks(n api.Node) {
	if n.N == 0 {
		p.word("xr")
	} else {
		p.word("xs")
	}
	p.space(" ")
	p.list(n.Kids, ",")
}
