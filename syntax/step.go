package syntax

import "spinneret/api"

func (p *parser) block() {
	p.must("{")
	p.seq()
	p.must("}")
}

// seq reads steps up to a token that ends them; what parts them may lack behind a `}`.
func (p *parser) seq() {
	at, from := p.now(), p.begin()
	for {
		p.step()
		parted := false
		for p.takes(";") || p.takes("->") {
			parted = true
		}
		if p.endsSeq() {
			break
		}
		if !parted && !(isMark(p.l[p.at-1], "}") && p.beginsStep()) {
			break
		}
	}
	p.make(api.DSeq, at, "", 0, from)
}

func (p *parser) endsSeq() bool {
	return p.mark("}") || p.mark("::") || p.word("fi") || p.word("od")
}

func (p *parser) beginsStep() bool {
	k := p.now()
	if k.Kind == api.TName {
		return typeOf(k) != 0 || showing(k) != 0 || isWord(k, "xr") || isWord(k, "xs") || p.beginsStmt()
	}
	return p.beginsStmt()
}

// beginsStmt tells whether a statement may begin with the token at hand.
func (p *parser) beginsStmt() bool {
	k := p.now()
	switch k.Kind {
	case api.TNum:
		return true
	case api.TMark:
		return k.Text == "{" || k.Text == "(" || unaryOf(k) != 0
	case api.TName:
		switch k.Text {
		case "if", "do", "for", "select", "atomic", "d_step", "else", "break", "goto", "printf", "printm", "assert", "skip",
			"true", "false", "run":
			return true
		}
		return keyOf(k) != 0 || askOf(k) != 0 || callOf(k) != 0 || isName(k)
	}
	return false
}

func (p *parser) step() {
	k, from := p.now(), p.begin()
	switch {
	case typeOf(k) != 0, showing(k) != 0, isName(k) && isName(p.ahead(1)):
		p.decl()
		return
	case isWord(k, "xr"):
		p.marks(0)
		return
	case isWord(k, "xs"):
		p.marks(1)
		return
	}
	p.stmt()
	if p.takesWord("unless") {
		p.stmt()
		p.make(api.PUnless, k, "", 0, from)
	}
}

func (p *parser) marks(n int64) {
	at, from := p.now(), p.begin()
	p.at++
	p.list(p.ref)
	p.make(api.PMark, at, "", n, from)
}

func (p *parser) stmt() {
	p.enter()
	defer p.leave()
	k, from := p.now(), p.begin()
	if k.Kind == api.TName {
		switch k.Text {
		case "if":
			p.options(api.PIf, "fi")
			return
		case "do":
			p.options(api.PDo, "od")
			return
		case "for":
			p.forLoop()
			return
		case "select":
			p.choose()
			return
		case "atomic":
			p.at++
			p.block()
			p.make(api.PAtomic, k, "", 0, from)
			return
		case "d_step":
			p.at++
			p.block()
			p.make(api.PDstep, k, "", 0, from)
			return
		}
	}
	if p.mark("{") {
		p.block()
		p.make(api.PBlock, k, "", 0, from)
		return
	}
	p.simple()
}

// options reads those of an if or a do.
func (p *parser) options(kind int, end string) {
	at, from := p.now(), p.begin()
	p.at++
	if !p.mark("::") {
		p.wrong()
	}
	for p.takes("::") {
		p.seq()
	}
	p.mustWord(end)
	p.make(kind, at, "", 0, from)
}

func (p *parser) forLoop() {
	at, from := p.now(), p.begin()
	p.at++
	p.must("(")
	p.ref()
	kind := api.PForIn
	if p.takesWord("in") {
		p.ref()
	} else {
		p.span()
		kind = api.PFor
	}
	p.must(")")
	p.block()
	p.make(kind, at, "", 0, from)
}

func (p *parser) choose() {
	at, from := p.now(), p.begin()
	p.at++
	p.must("(")
	p.ref()
	p.span()
	p.must(")")
	p.make(api.PSelect, at, "", 0, from)
}

// span reads from where to where a variable goes.
func (p *parser) span() {
	p.must(":")
	p.any()
	p.must("..")
	p.any()
}

// simple reads a statement that has no statements in it, but a label's.
func (p *parser) simple() {
	k, from := p.now(), p.begin()
	switch {
	case isWord(k, "else"):
		p.at++
		p.make(api.PElse, k, "", 0, from)
	case isWord(k, "break"):
		p.at++
		p.make(api.PBreak, k, "", 0, from)
	case isWord(k, "goto"):
		p.at++
		p.make(api.PGoto, k, p.name().Text, 0, from)
	case isWord(k, "printf"):
		p.printf()
	case isWord(k, "printm"):
		p.at++
		p.must("(")
		p.any()
		p.must(")")
		p.make(api.PPrint, k, "", 1, from)
	case isWord(k, "assert"):
		p.at++
		p.any()
		p.make(api.PAssert, k, "", 0, from)
	case isName(k) && isMark(p.ahead(1), ":"):
		p.at += 2
		p.stmt()
		p.make(api.PLabel, k, k.Text, 0, from)
	case isName(k):
		p.named()
	default:
		p.any()
		p.make(api.PExpr, k, "", 0, from)
	}
}

func (p *parser) printf() {
	at, from := p.now(), p.begin()
	p.at++
	p.must("(")
	k := p.now()
	if k.Kind != api.TText {
		p.wrong()
	}
	p.at++
	for p.takes(",") {
		p.any()
	}
	p.must(")")
	p.make(api.PPrint, at, k.Text, 0, from)
}

// named reads a statement that begins with a name: as a reference first, and then by what follows.
func (p *parser) named() {
	k, from := p.now(), p.begin()
	first, nodes := p.at, len(p.t)
	p.ref()
	poll := isMark(p.ahead(1), "[")
	switch {
	case p.takes("="):
		p.any()
		p.make(api.PSet, k, "", 0, from)
	case p.takes("++"):
		p.make(api.PStep, k, "", 1, from)
	case p.takes("--"):
		p.make(api.PStep, k, "", -1, from)
	case p.takes("!"):
		p.outs()
		p.make(api.PSend, k, "", 0, from)
	case p.takes("!!"):
		p.outs()
		p.make(api.PSend, k, "", 1, from)
	case !poll && p.takes("?"):
		n := p.received(0)
		p.make(api.PRecv, k, "", n, from)
	case !poll && p.takes("??"):
		n := p.received(1)
		p.make(api.PRecv, k, "", n, from)
	default:
		p.at, p.t, p.roots = first, p.t[:nodes], p.roots[:from]
		p.any()
		p.make(api.PExpr, k, "", 0, from)
	}
}

// received reads what stands behind a ? or a ??, and tells the receive's N.
func (p *parser) received(n int64) int64 {
	if !p.takes("<") {
		p.ins()
		return n
	}
	p.ins()
	p.must(">")
	return n + 2
}

func (p *parser) outs() {
	p.any()
	if p.takes("(") {
		p.list(p.any)
		p.must(")")
		return
	}
	for p.takes(",") {
		p.any()
	}
}

func (p *parser) ins() {
	p.in()
	if p.takes("(") {
		p.list(p.in)
		p.must(")")
		return
	}
	for p.takes(",") {
		p.in()
	}
}

func (p *parser) in() {
	k, from := p.now(), p.begin()
	switch {
	case isWord(k, "eval"):
		p.at++
		p.must("(")
		p.inBrackets(p.any)
		p.must(")")
		p.make(api.AEval, k, "", 0, from)
	case isWord(k, "_"):
		p.at++
		p.make(api.AAny, k, "", 0, from)
	case isMark(k, "-"):
		p.at++
		p.make(api.ENum, k, "", -p.number().N, from)
	case k.Kind == api.TNum, isWord(k, "true"), isWord(k, "false"):
		p.constant()
	default:
		p.ref()
	}
}
