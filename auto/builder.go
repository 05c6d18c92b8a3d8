package auto

import (
	"strings"

	"spinneret/api"
)

// What a way does, told by what of the tree it comes from.
type (
	// skips: nothing.
	skips struct{}
	// otherwise: what is done where a loop ends.
	otherwise struct{}
	// does: what the step at that node says.
	does struct{ node int }
	// sets: the variable becomes the value.
	sets struct {
		ref int
		to  operand
	}
	// tests: whether the variable is so far from the value.
	tests struct {
		ref, op int
		to      operand
	}
	// counts: the variable becomes one more.
	counts struct{ ref int }
	// opens: the variable's slot becomes a new channel.
	opens struct{ slot, shape int }
)

// operand is an expression's node; below 0: the number n.
type operand struct {
	node int
	n    int64
}

// way is one that is made: to is a place, or, turned (^), the symbol of a label.
type way struct {
	do   any
	to   int
	line int
}

// place is one that is made: if moved, it is another one, told as a way's to.
type place struct {
	out           []way
	esc           [][]way
	atomic, dstep bool
	end, accept   bool
	progress      bool
	labelled      bool
	moved         bool
	is            int
}

// around is where a step stands: loop: where a break leads.
type around struct {
	atomic, dstep bool
	loop          int
}

// builder makes the places of one proctype.
type builder struct {
	*maker
	places []place
	labels map[int]int
}

func (b *builder) place(in around) int {
	b.places = append(b.places, place{atomic: in.atomic && !in.dstep, dstep: in.dstep})
	return len(b.places) - 1
}

func (b *builder) way(p, to, line int, do any) {
	b.places[p].out = append(b.places[p].out, way{do, to, line})
}

// resolved is the place that a way's to is in the end.
func (b *builder) resolved(to int) int {
	for to < 0 || b.places[to].moved {
		if to < 0 {
			to = b.labels[^to]
		} else {
			to = b.places[to].is
		}
	}
	return to
}

// row makes the steps of a DSeq from a place to another one.
func (b *builder) row(seq, p, q int, free bool, in around) {
	var steps []int
	for _, k := range b.t[seq].Kids {
		if b.countsAsStep(k) {
			steps = append(steps, k)
		}
	}
	if len(steps) == 0 {
		b.way(p, q, b.t[seq].Line, skips{})
		return
	}
	for i, k := range steps {
		to := q
		if i < len(steps)-1 {
			to = b.place(in)
		}
		b.step(k, p, to, free, in)
		p, free = to, true
	}
}

func (b *builder) countsAsStep(node int) bool {
	switch b.t[node].Kind {
	case api.PMark:
		return false
	case api.DDecl:
		return len(b.channels(node)) > 0
	}
	return true
}

// channels are the DVars of a DDecl that have a DChan.
func (b *builder) channels(decl int) []int {
	var out []int
	for _, v := range b.t[decl].Kids[1:] {
		if kids := b.t[v].Kids; len(kids) > 0 && b.t[kids[0]].Kind == api.DChan {
			out = append(out, v)
		}
	}
	return out
}

// step makes a step from a place to another one; free: the first place is there for it alone.
func (b *builder) step(node, p, q int, free bool, in around) {
	x := b.t[node]
	switch x.Kind {
	case api.DDecl:
		b.declare(node, p, q, in)
	case api.PGoto:
		b.jump(x, p, ^b.n.Of[node], free)
	case api.PBreak:
		b.jump(x, p, in.loop, free)
	case api.PLabel:
		b.label(node, p)
		b.step(x.Kids[0], p, q, free, in)
	case api.PIf:
		for _, k := range x.Kids {
			b.row(k, p, q, false, in)
		}
	case api.PDo:
		b.loop(x, p, q, free, in)
	case api.PFor:
		b.span(node, p, q, operand{node: x.Kids[1]}, operand{node: x.Kids[2]}, in)
	case api.PForIn:
		last := operand{-1, int64(b.y.Uses[x.Kids[1]].Len - 1)}
		b.span(node, p, q, operand{node: -1}, last, in)
	case api.PSelect:
		b.choose(node, p, q, in)
	case api.PAtomic:
		in.atomic = true
		b.row(x.Kids[0], p, q, free, in)
	case api.PDstep:
		in.dstep = true
		b.row(x.Kids[0], p, q, free, in)
	case api.PBlock:
		b.row(x.Kids[0], p, q, free, in)
	case api.PUnless:
		b.unless(x, p, q, free, in)
	default:
		b.way(p, q, x.Line, does{node})
	}
}

// declare makes the channels of a declaration, one behind the other.
func (b *builder) declare(decl, p, q int, in around) {
	var made []opens
	for _, v := range b.channels(decl) {
		y := b.y.Lays[b.n.Of[v]]
		for i := range max(1, y.Len) {
			made = append(made, opens{y.Slot + i, b.shapes[b.t[v].Kids[0]]})
		}
	}
	for i, do := range made {
		to := q
		if i < len(made)-1 {
			to = b.place(in)
		}
		b.way(p, to, b.t[decl].Line, do)
		p = to
	}
}

func (b *builder) jump(x api.Node, p, to int, free bool) {
	if free && !b.places[p].labelled {
		b.places[p].moved, b.places[p].is = true, to
		return
	}
	b.way(p, to, x.Line, skips{})
}

func (b *builder) label(node, p int) {
	b.labels[b.n.Of[node]] = p
	l, text := &b.places[p], b.t[node].Text
	l.labelled = true
	l.end = l.end || strings.HasPrefix(text, "end")
	l.accept = l.accept || strings.HasPrefix(text, "accept")
	l.progress = l.progress || strings.HasPrefix(text, "progress")
}

func (b *builder) loop(x api.Node, p, q int, free bool, in around) {
	d := p
	if !free || b.places[p].atomic != (in.atomic && !in.dstep) || b.places[p].dstep != in.dstep {
		d = b.place(in)
	}
	inner := in
	inner.loop = q
	for _, k := range x.Kids {
		b.row(k, d, d, false, inner)
	}
	if d != p {
		b.places[p].out = append(b.places[p].out, b.places[d].out...)
	}
}

// span makes a PFor or a PForIn: its first Kid goes from a value up to another one.
func (b *builder) span(node, p, q int, from, to operand, in around) {
	x := b.t[node]
	ref, line := x.Kids[0], x.Line
	d := b.place(in)
	b.way(p, d, line, sets{ref, from})
	e := b.place(in)
	b.way(d, e, line, tests{ref, api.XLe, to})
	b.way(d, q, line, otherwise{})
	f := b.place(in)
	inner := in
	inner.loop = q
	b.row(x.Kids[len(x.Kids)-1], e, f, true, inner)
	b.way(f, d, line, counts{ref})
}

func (b *builder) choose(node, p, q int, in around) {
	x := b.t[node]
	ref, line := x.Kids[0], x.Line
	d := b.place(in)
	b.way(p, d, line, sets{ref, operand{node: x.Kids[1]}})
	e := b.place(in)
	b.way(d, e, line, tests{ref, api.XLt, operand{node: x.Kids[2]}})
	b.way(d, q, line, skips{})
	b.way(e, d, line, counts{ref})
}

func (b *builder) unless(x api.Node, p, q int, free bool, in around) {
	u := b.place(in)
	from := len(b.places)
	b.step(x.Kids[0], p, q, free, in)
	to := len(b.places)
	b.step(x.Kids[1], u, q, false, in)
	escape := func(at int) {
		l := &b.places[at]
		l.esc = append([][]way{b.places[u].out}, l.esc...)
	}
	escape(p)
	for at := from; at < to; at++ {
		escape(at)
	}
}
