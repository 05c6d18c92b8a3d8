package state

import (
	"strconv"

	"spinneret/api"
)

// Encode is a state as bytes.
func Encode(m api.Model, s api.State) (string, api.Errno) {
	if e := Check(m, s); e != api.OK {
		return "", e
	}
	return encoded(s), api.OK
}

func encoded(s api.State) string {
	var b []byte
	put := func(v int64) {
		b = strconv.AppendInt(b, v, 10)
		b = append(b, ',')
	}
	putAll := func(l []int64) {
		for _, v := range l {
			put(v)
		}
	}
	putAll(s.Globals)
	put(int64(len(s.Chans)))
	for _, c := range s.Chans {
		put(int64(c.Shape))
		put(int64(len(c.Queue)))
		for _, message := range c.Queue {
			putAll(message)
		}
	}
	put(int64(len(s.Procs)))
	for _, p := range s.Procs {
		put(int64(p.Type))
		put(int64(p.Loc))
		putAll(p.Frame)
	}
	put(int64(s.Last))
	put(int64(s.Alone))
	put(int64(s.Claim))
	return string(b)
}

// Decode reads them.
func Decode(m api.Model, b string) (api.State, api.Errno) {
	if !isGood(m) {
		return api.State{}, api.ErrModel
	}
	l, ok := numbers(b)
	if !ok {
		return api.State{}, api.ErrState
	}
	r := reader{m: &m, left: l}
	s := r.state()
	// What is read is held against the text, so that each state has one text only.
	if r.wrong || len(r.left) > 0 || !mayBe(&m, &s) || encoded(s) != b {
		return api.State{}, api.ErrState
	}
	return s, api.OK
}

// numbers reads a text of numbers with a comma behind each.
func numbers(b string) ([]int64, bool) {
	var l []int64
	at, from := 0, 0
next:
	from = at
digit:
	if at == len(b) {
		goto end
	}
	if b[at] != ',' {
		at++
		goto digit
	}
	if v, err := strconv.ParseInt(b[from:at], 10, 64); err == nil {
		l = append(l, v)
		at++
		goto next
	}
	return nil, false
end:
	return l, from == at
}

// reader makes a state of numbers.
type reader struct {
	m     *api.Model
	left  []int64
	wrong bool
}

func (r *reader) next() int64 {
	if len(r.left) == 0 {
		r.wrong = true
		return 0
	}
	v := r.left[0]
	r.left = r.left[1:]
	return v
}

// below reads a number that is 0 to below another one.
func (r *reader) below(most int) int {
	v := r.next()
	if v < 0 || v >= int64(most) {
		r.wrong = true
		return 0
	}
	return int(v)
}

func (r *reader) list(size int) []int64 {
	var l []int64
	for range size {
		l = append(l, r.next())
	}
	return l
}

func (r *reader) state() api.State {
	s := api.State{Globals: r.list(len(r.m.Globals))}
	for chans := r.below(api.MaxChans + 1); chans > 0 && !r.wrong; chans-- {
		s.Chans = append(s.Chans, r.channel())
	}
	for procs := r.below(api.MaxProcs + 1); procs > 0 && !r.wrong; procs-- {
		s.Procs = append(s.Procs, r.process())
	}
	s.Last = int(r.next())
	s.Alone = int(r.next())
	s.Claim = int(r.next())
	return s
}

func (r *reader) channel() api.Chan {
	c := api.Chan{Shape: r.below(len(r.m.Shapes))}
	size := r.below(api.MaxRoom + 1)
	if r.wrong {
		return c
	}
	for range size {
		c.Queue = append(c.Queue, r.list(len(r.m.Shapes[c.Shape].Fields)))
	}
	return c
}

func (r *reader) process() api.Process {
	p := api.Process{Type: r.below(len(r.m.Procs))}
	typ := r.m.Procs[p.Type]
	p.Loc, p.Prio = r.below(api.MaxLocs), typ.Prio
	p.Frame = r.list(len(typ.Frame))
	return p
}
