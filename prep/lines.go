package prep

import "spinneret/api"

// condition is one that is open: whether what stands in it is kept, whether anything in it may be (what stands around it is), and whether its else has come.
type condition struct {
	keeps, may, other bool
}

// macros does directives, and uses macros.
type macros struct {
	*user
	open []condition
}

func (m *macros) atDirective(l []api.Token, at int) bool {
	return isMark(l[at], "#") && (at == 0 || l[at-1].Line != l[at].Line)
}

func (m *macros) keeps() bool {
	return len(m.open) == 0 || m.open[len(m.open)-1].keeps
}

// directive does the one whose # stands at a place, with the tokens behind that.
func (m *macros) directive(at int, l []api.Token) {
	word := ""
	if len(l) > 0 && l[0].Kind == api.TName {
		word = l[0].Text
		l = l[1:]
	}
	switch word {
	case "if", "ifdef", "ifndef":
		m.opens(word, at, l)
		return
	case "else":
		m.turn(at, l)
		return
	case "endif":
		if len(l) > 0 || len(m.open) == 0 {
			fail(api.ErrPrep, at)
		}
		m.open = m.open[:len(m.open)-1]
		return
	}
	if !m.keeps() {
		return
	}
	switch word {
	case "define":
		m.define(at, l)
	case "undef":
		delete(m.defs, oneName(at, l))
	default:
		fail(api.ErrPrep, at)
	}
}

func oneName(at int, l []api.Token) string {
	if len(l) != 1 || l[0].Kind != api.TName {
		fail(api.ErrPrep, at)
	}
	return l[0].Text
}

func (m *macros) opens(word string, at int, l []api.Token) {
	c := condition{may: m.keeps()}
	if c.may && word == "if" {
		c.keeps = m.holds(at, l)
	} else if c.may {
		_, there := m.defs[oneName(at, l)]
		c.keeps = there == (word == "ifdef")
	}
	if len(m.open) == api.MaxMacro {
		fail(api.ErrDeep, at)
	}
	m.open = append(m.open, c)
}

func (m *macros) turn(at int, l []api.Token) {
	if len(l) > 0 || len(m.open) == 0 || m.open[len(m.open)-1].other {
		fail(api.ErrPrep, at)
	}
	c := &m.open[len(m.open)-1]
	c.other = true
	c.keeps = c.may && !c.keeps
}

func (m *macros) define(at int, l []api.Token) {
	if len(l) == 0 || l[0].Kind != api.TName || l[0].Text == "defined" {
		fail(api.ErrPrep, at)
	}
	name := l[0]
	d := macro{plain: true, body: l[1:]}
	if len(l) > 1 && isMark(l[1], "(") && l[1].At == name.At+len(name.Text) {
		params, size := names(l[2:])
		if size == 0 {
			fail(api.ErrPrep, at)
		}
		d = macro{params: params, body: l[2+size:]}
	}
	if _, there := m.defs[name.Text]; !there && len(m.defs) == api.MaxMacros {
		fail(api.ErrMany, at)
	}
	m.defs[name.Text] = d
}

// holds tells whether a condition behind an if isn't 0.
func (m *macros) holds(at int, l []api.Token) bool {
	r := &reader{l: m.done(m.asked(at, l)), place: at}
	v := r.or(0)
	if r.at < len(r.l) {
		fail(api.ErrPrep, at)
	}
	return v != 0
}

// asked puts 1 or 0 for each `defined`.
func (m *macros) asked(at int, l []api.Token) []api.Token {
	var out []api.Token
	for i := 0; i < len(l); i++ {
		if !isName(l[i], "defined") {
			out = append(out, l[i])
			continue
		}
		size := 1
		if i+3 < len(l) && isMark(l[i+1], "(") && isMark(l[i+3], ")") {
			size = 3
		}
		name := i + 1 + size/3
		if name >= len(l) || l[name].Kind != api.TName {
			fail(api.ErrPrep, at)
		}
		k := api.Token{Kind: api.TNum, At: l[i].At, Line: l[i].Line, Text: "0"}
		if _, there := m.defs[l[name].Text]; there {
			k.Text, k.N = "1", 1
		}
		out = append(out, k)
		i += size
	}
	return out
}
