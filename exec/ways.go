package exec

import (
	"spinneret/api"
	"spinneret/chans"
	"spinneret/reckon"
	"spinneret/value"
)

// none is a way without any: a process's end, or an error ahead of all ways.
var none = api.Way{Esc: -1, Way: -1, With: -1, WithEsc: -1, WithWay: -1}

// alone is one that a process goes by itself.
func alone(esc, way int, err api.Errno) api.Way {
	return api.Way{Esc: esc, Way: way, With: -1, WithEsc: -1, WithWay: -1, Err: err}
}

func process(e *api.Env) (*api.Process, *api.Proc) {
	p := &e.S.Procs[e.Pid]
	return p, &e.M.Procs[p.Type]
}

// lists hands the lists of a process's place to do, one by one, until that says true.
func lists(e *api.Env, do func(esc int, list []api.Trans) bool) {
	p, typ := process(e)
	l := &typ.Locs[p.Loc]
	for i, esc := range l.Esc {
		if do(i, esc) {
			return
		}
	}
	do(-1, l.Out)
}

// ways are those of a process of a state that may be.
func ways(e *api.Env) []api.Way {
	p, typ := process(e)
	if p.Loc == typ.Final {
		if e.Pid == len(e.S.Procs)-1 {
			return []api.Way{none}
		}
		return nil
	}
	if typ.Provided >= 0 {
		v, err := reckon.Eval(e, typ.Provided)
		if err != api.OK {
			return []api.Way{alone(-1, -1, err)}
		}
		if v == 0 {
			return nil
		}
	}
	var out []api.Way
	lists(e, func(esc int, list []api.Trans) bool {
		out = listed(e, esc, list)
		return len(out) > 0
	})
	return out
}

// listed are the ways of a list that can be done.
func listed(e *api.Env, esc int, list []api.Trans) []api.Way {
	var out, other []api.Way
	for i := range list {
		s := &list[i].S
		switch s.Kind {
		case api.SElse:
			other = append(other, alone(esc, i, api.OK))
		case api.SSend:
			out = append(out, sends(e, esc, i, s)...)
		default:
			if can, err := canBeDone(e, s); can {
				out = append(out, alone(esc, i, err))
			}
		}
	}
	if len(out) == 0 {
		return other
	}
	return out
}

// canBeDone tells whether a statement can, by itself, and which error it then comes to, as far as that is known ahead.
func canBeDone(e *api.Env, s *api.Stmt) (bool, api.Errno) {
	asked := s.A
	switch s.Kind {
	case api.SSet:
		if e.M.Exprs[s.B].Op != api.XRun {
			return true, api.OK
		}
		asked = s.B
	case api.SAssert, api.SPrint, api.SSkip:
		return true, api.OK
	case api.SChan:
		return len(e.S.Chans) < api.MaxChans, api.OK
	case api.SSend:
		can, _, err := sendable(e, s)
		return can, err
	case api.SRecv:
		_, at, err := received(e, s)
		return err != api.OK || at >= 0, err
	}
	if e.M.Exprs[asked].Op == api.XRun {
		return len(e.S.Procs) < api.MaxProcs, api.OK
	}
	v, err := reckon.Eval(e, asked)
	return err != api.OK || v != 0, err
}

// channel is the one of a send or a receive.
func channel(e *api.Env, s *api.Stmt) (int, api.Errno) {
	number, err := reckon.Chan(e, s.A)
	if err == api.OK && len(shape(e, number).Fields) != len(s.Args) {
		return 0, api.ErrChan
	}
	return number, err
}

func shape(e *api.Env, number int) *api.Shape { return &e.M.Shapes[e.S.Chans[number-1].Shape] }

// sendable tells whether a send can be done by itself, or comes to an error; and its channel.
func sendable(e *api.Env, s *api.Stmt) (bool, int, api.Errno) {
	number, err := channel(e, s)
	if err != api.OK {
		return true, 0, err
	}
	return len(e.S.Chans[number-1].Queue) < shape(e, number).Room, number, api.OK
}

// received tells of a receive its channel, and the place of the message; -1: there is none.
func received(e *api.Env, s *api.Stmt) (int, int, api.Errno) {
	number, err := channel(e, s)
	if err != api.OK {
		return 0, 0, err
	}
	want, err := reckon.Wanted(e, s.Args, s.Match)
	if err != api.OK {
		return 0, 0, err
	}
	return number, chans.Find(e.S.Chans[number-1], want, s.Match, s.N == 1 || s.N == 3), api.OK
}

// sends are the ways of a send: by itself, or with each that takes the message.
func sends(e *api.Env, esc, way int, s *api.Stmt) []api.Way {
	can, number, err := sendable(e, s)
	if can {
		return []api.Way{alone(esc, way, err)}
	}
	if shape(e, number).Room > 0 {
		return nil
	}
	m, err := message(e, s, number)
	if err != api.OK {
		return []api.Way{alone(esc, way, err)}
	}
	var out []api.Way
	for pid := range e.S.Procs {
		if pid == e.Pid {
			continue
		}
		for _, w := range takers(e, pid, number, m) {
			w.Esc, w.Way = esc, way
			out = append(out, w)
		}
	}
	return out
}

// message is what a send sends, as it is in the channel.
func message(e *api.Env, s *api.Stmt, number int) (api.Message, api.Errno) {
	m, err := reckon.All(e, s.Args)
	if err != api.OK {
		return nil, err
	}
	for i, t := range shape(e, number).Fields {
		m[i] = value.Fit(t, m[i])
	}
	return m, api.OK
}

// takers are the ways of another process that take a message.
func takers(e *api.Env, pid, number int, m api.Message) []api.Way {
	other := *e
	other.Pid = pid
	p, typ := process(&other)
	if p.Loc == typ.Final {
		return nil
	}
	if typ.Provided >= 0 {
		if v, err := reckon.Eval(&other, typ.Provided); err != api.OK || v == 0 {
			return nil
		}
	}
	var out []api.Way
	lists(&other, func(esc int, list []api.Trans) bool {
		counts := false
		for i := range list {
			s := &list[i].S
			if s.Kind == api.SElse {
				counts = true
			} else if takes(&other, s, number, m) {
				out = append(out, api.Way{With: pid, WithEsc: esc, WithWay: i})
			} else if can, _ := canBeDone(&other, s); can {
				counts = true
			}
		}
		return counts || len(out) > 0
	})
	return out
}

// takes tells whether a statement takes a message out of a channel without room.
func takes(e *api.Env, s *api.Stmt, number int, m api.Message) bool {
	if s.Kind != api.SRecv || s.N > 1 || len(s.Args) != len(m) {
		return false
	}
	if v, err := reckon.Eval(e, s.A); err != api.OK || v != int64(number) {
		return false
	}
	want, err := reckon.Wanted(e, s.Args, s.Match)
	if err != api.OK {
		return false
	}
	for i, how := range s.Match {
		if how == 1 && want[i] != m[i] {
			return false
		}
	}
	return true
}
