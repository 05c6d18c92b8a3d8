package syntax

import (
	"slices"

	"spinneret/api"
)

// fault is what is wrong, and where: it is thrown, and caught at the face.
type fault struct {
	e  api.Errno
	at int
}

// parser reads tokens, and makes nodes.
type parser struct {
	l  []api.Token
	at int
	t  api.Tree
	// roots are the nodes that no node has yet.
	roots []int
	// nest is how many statements and unaries there are around.
	nest int
	// middle: in the middle part of a conditional, in no further brackets.
	middle bool
}

func (p *parser) now() api.Token { return p.l[p.at] }

// ahead is the token so many behind the one at hand.
func (p *parser) ahead(n int) api.Token { return p.l[min(p.at+n, len(p.l)-1)] }

func (p *parser) wrong() { panic(fault{api.ErrSyntax, p.now().At}) }

func isWord(k api.Token, text string) bool { return k.Kind == api.TName && k.Text == text }

func isMark(k api.Token, text string) bool { return k.Kind == api.TMark && k.Text == text }

func isName(k api.Token) bool { return k.Kind == api.TName && !reserved(k.Text) }

func (p *parser) word(text string) bool { return isWord(p.now(), text) }

func (p *parser) mark(text string) bool { return isMark(p.now(), text) }

// takes passes the token at hand, if it is that mark.
func (p *parser) takes(mark string) bool {
	if !p.mark(mark) {
		return false
	}
	p.at++
	return true
}

// takesWord passes the token at hand, if it is that word.
func (p *parser) takesWord(text string) bool {
	if !p.word(text) {
		return false
	}
	p.at++
	return true
}

func (p *parser) must(mark string) {
	if !p.takes(mark) {
		p.wrong()
	}
}

func (p *parser) mustWord(text string) {
	if !p.takesWord(text) {
		p.wrong()
	}
}

func (p *parser) name() api.Token {
	k := p.now()
	if !isName(k) {
		p.wrong()
	}
	p.at++
	return k
}

func (p *parser) number() api.Token {
	k := p.now()
	if k.Kind != api.TNum {
		p.wrong()
	}
	p.at++
	return k
}

// numberIn reads a number that is at least one and at most another one.
func (p *parser) numberIn(least, most int64) int64 {
	k := p.now()
	if k.Kind == api.TNum && (k.N < least || k.N > most) {
		p.wrong()
	}
	return p.number().N
}

// begin tells how many roots there are: those made from here on are the Kids of the next node.
func (p *parser) begin() int { return len(p.roots) }

// make makes a node at a token, with the roots from a place on as its Kids.
func (p *parser) make(kind int, at api.Token, text string, n int64, from int) {
	if len(p.t) == api.MaxNodes {
		panic(fault{api.ErrMany, at.At})
	}
	kids := slices.Clone(p.roots[from:])
	p.roots = append(p.roots[:from], len(p.t))
	p.t = append(p.t, api.Node{Kind: kind, At: at.At, Line: at.Line, Text: text, N: n, Kids: kids})
}

// unmake takes the last node back: its Kids are roots again.
func (p *parser) unmake() {
	last := len(p.t) - 1
	p.roots = append(p.roots[:len(p.roots)-1], p.t[last].Kids...)
	p.t = p.t[:last]
}

// enter is called where a statement or a unary begins, and leave where it ends.
func (p *parser) enter() {
	if p.nest == api.MaxNest {
		panic(fault{api.ErrDeep, p.now().At})
	}
	p.nest++
}

func (p *parser) leave() { p.nest-- }

// inBrackets reads what stands in brackets, where a `:` is no more a conditional's.
func (p *parser) inBrackets(read func()) {
	middle := p.middle
	p.middle = false
	read()
	p.middle = middle
}

// list reads one or more things with commas between.
func (p *parser) list(read func()) {
	read()
	for p.takes(",") {
		read()
	}
}

func reserved(s string) bool {
	switch s {
	case "active", "assert", "atomic", "bit", "bool", "break", "byte", "chan", "d_step", "do", "else", "empty", "enabled",
		"eval", "false", "fi", "for", "full", "goto", "hidden", "if", "in", "init", "inline", "int", "len", "local", "mtype",
		"nempty", "never", "nfull", "np_", "od", "of", "pc_value", "pid", "printf", "printm", "priority", "proctype",
		"provided", "run", "select", "short", "show", "skip", "timeout", "true", "typedef", "unless", "unsigned", "xr", "xs",
		"_", "_last", "_nr_pr", "_pid":
		return true
	}
	return false
}

// typeOf is the number of the type that a word names; 0: it names none.
func typeOf(k api.Token) int64 {
	if k.Kind == api.TName {
		switch k.Text {
		case "bit":
			return api.TyBit
		case "bool":
			return api.TyBool
		case "byte":
			return api.TyByte
		case "short":
			return api.TyShort
		case "int":
			return api.TyInt
		case "unsigned":
			return api.TyUnsigned
		case "mtype":
			return api.TyMtype
		case "pid":
			return api.TyPid
		case "chan":
			return api.TyChan
		}
	}
	return 0
}

// showing is the number of a word ahead of a declaration; 0: it is none.
func showing(k api.Token) int64 {
	if k.Kind == api.TName {
		switch k.Text {
		case "hidden":
			return 1
		case "show":
			return 2
		case "local":
			return 3
		}
	}
	return 0
}
