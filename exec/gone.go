package exec

import (
	"spinneret/api"
	"spinneret/chans"
	"spinneret/expr"
	"spinneret/reckon"
	"spinneret/state"
)

// gone is the state behind a way that can be gone, and what was printed.
func gone(e *api.Env, w api.Way) (api.State, string, api.Errno) {
	// Numbers are reckoned in e, as it was; variables lie where they do in now, as it becomes.
	now := *e
	now.S = state.Copy(e.S)
	text := ""
	if w == none {
		now.S.Procs = now.S.Procs[:e.Pid]
	} else {
		t := trans(e, e.Pid, w.Esc, w.Way)
		var err api.Errno
		if text, err = done(e, &now, &t.S, w); err != api.OK {
			return api.State{}, "", err
		}
		now.S.Procs[e.Pid].Loc = t.To
		if w.With >= 0 {
			now.S.Procs[w.With].Loc = trans(e, w.With, w.WithEsc, w.WithWay).To
		}
	}
	now.S.Last = e.Pid
	if now.S.Alone >= len(now.S.Procs) {
		now.S.Alone = -1
	}
	return now.S, text, api.OK
}

func trans(e *api.Env, pid, esc, way int) *api.Trans {
	p := &e.S.Procs[pid]
	l := &e.M.Procs[p.Type].Locs[p.Loc]
	if esc < 0 {
		return &l.Out[way]
	}
	return &l.Esc[esc][way]
}

// done does a statement.
func done(e, now *api.Env, s *api.Stmt, w api.Way) (string, api.Errno) {
	switch s.Kind {
	case api.SExpr:
		if e.M.Exprs[s.A].Op == api.XRun {
			_, err := run(e, now, s.A)
			return "", err
		}
	case api.SSet:
		return "", set(e, now, s)
	case api.SAssert:
		v, err := reckon.Eval(e, s.A)
		if err == api.OK && v == 0 {
			err = api.ErrAssert
		}
		return "", err
	case api.SPrint:
		args, err := reckon.All(e, s.Args)
		if err != api.OK {
			return "", err
		}
		return expr.Print(s.Text, args), api.OK
	case api.SChan:
		now.S.Chans = append(now.S.Chans, api.Chan{Shape: s.N})
		return "", reckon.Set(now, s.A, int64(len(now.S.Chans)))
	case api.SSend:
		return "", send(e, now, s, w)
	case api.SRecv:
		return "", receive(e, now, s)
	}
	return "", api.OK
}

// run begins a process, and tells its pid.
func run(e, now *api.Env, x int) (int64, api.Errno) {
	n := &e.M.Exprs[x]
	args, err := reckon.All(e, n.Args)
	if err != api.OK {
		return 0, err
	}
	p, err := state.Begin(e.M, int(n.N), args)
	if err != api.OK {
		return 0, err
	}
	now.S.Procs = append(now.S.Procs, p)
	return int64(len(now.S.Procs) - 1), api.OK
}

func set(e, now *api.Env, s *api.Stmt) api.Errno {
	var v int64
	var err api.Errno
	if e.M.Exprs[s.B].Op == api.XRun {
		v, err = run(e, now, s.B)
	} else {
		v, err = reckon.Eval(e, s.B)
	}
	if err != api.OK {
		return err
	}
	return reckon.Set(now, s.A, v)
}

// send puts a message into a channel, or hands it over.
func send(e, now *api.Env, s *api.Stmt, w api.Way) api.Errno {
	number, err := channel(e, s)
	if err != api.OK {
		return err
	}
	m, err := message(e, s, number)
	if err != api.OK {
		return err
	}
	if w.With >= 0 {
		other := *now
		other.Pid = w.With
		return handed(&other, &trans(e, w.With, w.WithEsc, w.WithWay).S, m)
	}
	now.S.Chans[number-1], err = chans.Put(*shape(e, number), e.S.Chans[number-1], m, s.N == 1)
	return err
}

func receive(e, now *api.Env, s *api.Stmt) api.Errno {
	number, at, err := received(e, s)
	if err != api.OK {
		return err
	}
	c, m, err := chans.Take(e.S.Chans[number-1], at)
	if err != api.OK {
		return err
	}
	if s.N < 2 {
		now.S.Chans[number-1] = c
	}
	return handed(now, s, m)
}

// handed gives a message's numbers to the variables of a receive, one by one.
func handed(now *api.Env, s *api.Stmt, m api.Message) api.Errno {
	for i, how := range s.Match {
		if how != 0 {
			continue
		}
		if err := reckon.Set(now, s.Args[i], m[i]); err != api.OK {
			return err
		}
	}
	return api.OK
}
