package syntax

import "spinneret/api"

func (p *parser) all() {
	at, from := p.now(), p.begin()
	for p.now().Kind != api.TEnd {
		if !p.takes(";") {
			p.module()
		}
	}
	p.make(api.MAll, at, "", 0, from)
}

func (p *parser) module() {
	switch k := p.now(); {
	case isWord(k, "typedef"):
		p.typedef()
	case isWord(k, "mtype") && !isName(p.ahead(1)):
		p.mtype()
	case isWord(k, "active"), isWord(k, "proctype"):
		p.proctype()
	case isWord(k, "init"):
		p.initial()
	case isWord(k, "never"):
		p.never()
	default:
		p.decl()
	}
}

func (p *parser) typedef() {
	at, from := p.now(), p.begin()
	p.at++
	name := p.name()
	p.must("{")
	p.decls("}")
	p.must("}")
	p.make(api.MDef, at, name.Text, 0, from)
}

// mtype reads names of numbers; a name right behind the word would make it a declaration.
func (p *parser) mtype() {
	at, from := p.now(), p.begin()
	p.at++
	p.takes("=")
	p.must("{")
	p.list(func() {
		k := p.name()
		p.make(api.MName, k, k.Text, 0, p.begin())
	})
	p.must("}")
	p.make(api.MMtype, at, "", 0, from)
}

func (p *parser) proctype() {
	at, from := p.now(), p.begin()
	active := int64(0)
	if p.takesWord("active") {
		active = 1
		if p.takes("[") {
			active = p.numberIn(1, 255)
			p.must("]")
		}
	}
	p.mustWord("proctype")
	name := p.name()
	p.must("(")
	if !p.mark(")") {
		p.decls(")")
	}
	p.must(")")
	p.head(from)
	if p.takesWord("provided") {
		p.must("(")
		p.any()
		p.must(")")
	}
	p.block()
	p.make(api.MProc, at, name.Text, active, from)
}

// head makes what stands ahead of a block: the parameters that were read, and the priority.
func (p *parser) head(from int) {
	at := p.now()
	priority := int64(0)
	if p.takesWord("priority") {
		priority = p.numberIn(1, 255)
	}
	p.make(api.MHead, at, "", priority, from)
}

func (p *parser) initial() {
	at, from := p.now(), p.begin()
	p.at++
	p.head(p.begin())
	p.block()
	p.make(api.MInit, at, "", 0, from)
}

func (p *parser) never() {
	at, from := p.now(), p.begin()
	p.at++
	text := ""
	if isName(p.now()) {
		text = p.name().Text
	}
	p.block()
	p.make(api.MNever, at, text, 0, from)
}

// decls reads declarations up to a mark.
func (p *parser) decls(end string) {
	p.decl()
	for p.takes(";") && !p.mark(end) {
		p.decl()
	}
}

func (p *parser) decl() {
	at, from := p.now(), p.begin()
	n := showing(at)
	if n != 0 {
		p.at++
	}
	ty := p.typeName()
	p.list(func() { p.variable(ty) })
	p.make(api.DDecl, at, "", n, from)
}

// typeName reads a type, and tells which.
func (p *parser) typeName() int64 {
	k := p.now()
	ty, text := typeOf(k), ""
	if ty == 0 {
		ty, text = api.TyDef, p.name().Text
	} else {
		p.at++
	}
	p.make(api.DType, k, text, ty, p.begin())
	return ty
}

func (p *parser) variable(ty int64) {
	from := p.begin()
	name := p.name()
	n := int64(0)
	if ty == api.TyUnsigned {
		p.must(":")
		n = p.notZero()
	} else if p.takes("[") {
		n = p.notZero()
		p.must("]")
	}
	if p.takes("=") {
		if ty == api.TyChan {
			p.channel()
		} else {
			p.any()
		}
	}
	p.make(api.DVar, name, name.Text, n, from)
}

func (p *parser) notZero() int64 {
	if k := p.now(); k.Kind == api.TNum && k.N == 0 {
		p.wrong()
	}
	return p.number().N
}

func (p *parser) channel() {
	at, from := p.now(), p.begin()
	p.must("[")
	room := p.number().N
	p.must("]")
	p.mustWord("of")
	p.must("{")
	p.list(func() { p.typeName() })
	p.must("}")
	p.make(api.DChan, at, "", room, from)
}
