package print

import (
	"strconv"
	"strings"

	"spinneret/api"
	"spinneret/lex"
)

// printer writes nodes: as tokens, or, if it has a text, as text.
type printer struct {
	t    api.Tree
	how  map[int]func(api.Node)
	l    []api.Token
	text *strings.Builder
	// deep is how many blocks and options there are around.
	deep int
	// middle: in the middle part of a conditional, in no further brackets.
	middle bool
	// bits: the variables that are declared are unsigned ones.
	bits bool
}

func newPrinter(t api.Tree) *printer {
	p := &printer{t: t}
	p.how = map[int]func(api.Node){
		api.ENum: p.constant, api.ERef: p.ref, api.EUn: p.unary, api.EBin: p.binary, api.ECond: p.cond,
		api.ECall: p.call, api.EPoll: p.poll, api.EKey: p.key, api.EAsk: p.ask, api.EAt: p.at,
		api.ERemote: p.remote, api.ERun: p.run, api.AEval: p.eval, api.AAny: p.anything,
		api.DDecl: p.decl, api.DVar: p.variable, api.DType: p.typeName, api.DChan: p.channel,
		api.PIf: p.options, api.PDo: p.options, api.PFor: p.forLoop, api.PForIn: p.forIn, api.PSelect: p.choose,
		api.PAtomic: p.blockStep, api.PDstep: p.blockStep, api.PBlock: p.blockStep,
		api.PSend: p.send, api.PRecv: p.receive, api.PSet: p.set, api.PStep: p.step,
		api.PElse: p.bare, api.PBreak: p.bare, api.PGoto: p.jump, api.PLabel: p.label,
		api.PPrint: p.printf, api.PAssert: p.assert, api.PExpr: p.expression, api.PUnless: p.unless, api.PMark: p.marks,
		api.MAll: p.all, api.MProc: p.proctype, api.MInit: p.initial, api.MNever: p.never,
		api.MMtype: p.mtype, api.MName: p.nameOf, api.MDef: p.typedef,
	}
	return p
}

func (p *printer) node(at int) {
	how, ok := p.how[p.t[at].Kind]
	if !ok {
		panic(fault{})
	}
	how(p.t[at])
}

// kid is the place of one of a node's Kids.
func (p *printer) kid(n api.Node, i int) int {
	if i >= len(n.Kids) {
		panic(fault{})
	}
	return n.Kids[i]
}

// space writes what stands between tokens.
func (p *printer) space(s string) {
	if p.text != nil {
		p.text.WriteString(s)
	}
}

func (p *printer) line() { p.space("\n") }

func (p *printer) indent() {
	if p.text != nil {
		p.text.WriteString(strings.Repeat("  ", p.deep))
	}
}

func (p *printer) token(k api.Token) {
	if p.text == nil {
		p.l = append(p.l, k)
		return
	}
	p.text.WriteString(k.Text)
}

func (p *printer) mark(s string) { p.token(api.Token{Kind: api.TMark, Text: s}) }

func (p *printer) word(s string) {
	if s == "" {
		panic(fault{})
	}
	p.token(api.Token{Kind: api.TName, Text: s})
}

// name writes a Text that has to be a name.
func (p *printer) name(s string) {
	l, e, _ := lex.Tokens(s)
	if e != api.OK || len(l) != 2 || l[0].Kind != api.TName || l[0].Text != s {
		panic(fault{})
	}
	p.word(s)
}

func (p *printer) number(n int64) {
	if n < 0 || n > 1<<31-1 {
		panic(fault{})
	}
	p.token(api.Token{Kind: api.TNum, Text: strconv.FormatInt(n, 10), N: n})
}

// quoted writes a Text that has to be one between two `"`.
func (p *printer) quoted(s string) {
	l, e, _ := lex.Tokens("\"" + s + "\"")
	if e != api.OK || len(l) != 2 || l[0].Kind != api.TText || l[0].Text != s {
		panic(fault{})
	}
	p.space("\"")
	p.token(api.Token{Kind: api.TText, Text: s})
	p.space("\"")
}

// brackets writes what stands in brackets, where a `:` is no more a conditional's.
func (p *printer) brackets(open string, inner func(), end string) {
	middle := p.middle
	p.middle = false
	p.mark(open)
	inner()
	p.mark(end)
	p.middle = middle
}

// list writes nodes with a mark and a blank between.
func (p *printer) list(kids []int, between string) {
	for i, k := range kids {
		if i > 0 {
			p.mark(between)
			p.space(" ")
		}
		p.node(k)
	}
}
