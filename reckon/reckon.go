// Package reckon is what package expr does once model and state have been looked at: layer 15 reckons many expressions in one state that is known to be good, and needn't look at it each time.
package reckon

import (
	"spinneret/api"
	"spinneret/chans"
	"spinneret/good"
	"spinneret/value"
)

// Eval reckons an expression of a model and in a state that may be; the Env's Pid is -1 or a process.
func Eval(e *api.Env, x int) (int64, api.Errno) {
	n := &e.M.Exprs[x]
	var parts [3]int64
	all := [3]int{n.A, n.B, n.C}
	// part reckons A, B or C, and keeps its number.
	part := func(i int) (err api.Errno) {
		parts[i], err = Eval(e, all[i])
		return err
	}
	switch n.Op {
	case api.XNum:
		return n.N, api.OK
	case api.XVar:
		pid, slot, err := Slot(e, x)
		if err != api.OK {
			return 0, err
		}
		return slots(e, pid)[slot], api.OK
	case api.XNeg, api.XNot, api.XFlip:
		if err := part(0); err != api.OK {
			return 0, err
		}
		return value.One(n.Op, parts[0])
	case api.XBoth, api.XEither, api.XIf:
		return chosen(n.Op, part, &parts)
	case api.XLen, api.XFull, api.XEmpty, api.XNfull, api.XNempty:
		return room(e, n)
	case api.XPoll:
		return poll(e, n)
	case api.XPid, api.XLast, api.XNrPr, api.XNp, api.XTimeout:
		return known(e, n.Op), api.OK
	case api.XEnabled, api.XPc, api.XAt:
		if err := part(0); err != api.OK {
			return 0, err
		}
		return asked(e, n, parts[0])
	case api.XRun:
		return 0, api.ErrInput
	}
	for i := range 2 {
		if err := part(i); err != api.OK {
			return 0, err
		}
	}
	return value.Two(n.Op, parts[0], parts[1])
}

func truth(b bool) int64 {
	if b {
		return 1
	}
	return 0
}

// chosen reckons what leaves parts out: those that don't matter any more.
func chosen(op int, part func(int) api.Errno, parts *[3]int64) (int64, api.Errno) {
	if err := part(0); err != api.OK {
		return 0, err
	}
	last := 1
	switch {
	case op == api.XBoth && parts[0] == 0:
		return 0, api.OK
	case op == api.XEither && parts[0] != 0:
		return 1, api.OK
	case op == api.XIf && parts[0] == 0:
		last = 2
	}
	if err := part(last); err != api.OK {
		return 0, err
	}
	if op == api.XIf {
		return parts[last], api.OK
	}
	return truth(parts[last] != 0), api.OK
}

// room tells how much stands in a channel.
func room(e *api.Env, n *api.Expr) (int64, api.Errno) {
	number, err := Chan(e, n.A)
	if err != api.OK {
		return 0, err
	}
	c := &e.S.Chans[number-1]
	size, most, turned := len(c.Queue), e.M.Shapes[c.Shape].Room, false
	switch n.Op {
	case api.XNfull:
		turned = true
		fallthrough
	case api.XFull:
		return truth((size >= most) != turned), api.OK
	case api.XNempty:
		turned = true
		fallthrough
	case api.XEmpty:
		return truth((size == 0) != turned), api.OK
	}
	return int64(size), api.OK
}

func poll(e *api.Env, n *api.Expr) (int64, api.Errno) {
	number, err := Chan(e, n.A)
	if err != api.OK {
		return 0, err
	}
	c := &e.S.Chans[number-1]
	if len(e.M.Shapes[c.Shape].Fields) != len(n.Args) {
		return 0, api.ErrChan
	}
	want, err := Wanted(e, n.Args, n.Match)
	if err != api.OK {
		return 0, err
	}
	return truth(chans.Find(*c, want, n.Match, n.N == 1) >= 0), api.OK
}

// Wanted are the numbers that have to match: of those that needn't 0.
func Wanted(e *api.Env, args, match []int) ([]int64, api.Errno) {
	want := make([]int64, len(args))
	for i, x := range args {
		if match[i] != 1 {
			continue
		}
		v, err := Eval(e, x)
		if err != api.OK {
			return nil, err
		}
		want[i] = v
	}
	return want, api.OK
}

// All reckons expressions one by one.
func All(e *api.Env, args []int) ([]int64, api.Errno) {
	out := make([]int64, len(args))
	for i, x := range args {
		v, err := Eval(e, x)
		if err != api.OK {
			return nil, err
		}
		out[i] = v
	}
	return out, api.OK
}

// known is what a state tells without being asked for anything.
func known(e *api.Env, op int) int64 {
	switch op {
	case api.XPid:
		return int64(e.Pid)
	case api.XLast:
		return int64(e.S.Last)
	case api.XNrPr:
		return int64(len(e.S.Procs))
	case api.XNp:
		for i := range e.S.Procs {
			p := &e.S.Procs[i]
			if e.M.Procs[p.Type].Locs[p.Loc].Progress {
				return 0
			}
		}
		return 1
	}
	return truth(e.Timeout)
}

// asked is what a state tells of the process who.
func asked(e *api.Env, n *api.Expr, who int64) (int64, api.Errno) {
	if n.Op == api.XEnabled {
		return truth(who >= 0 && who < int64(len(e.Able)) && e.Able[who]), api.OK
	}
	if who < 0 || who >= int64(len(e.S.Procs)) {
		return 0, api.ErrRemote
	}
	p := &e.S.Procs[who]
	if n.Op == api.XPc {
		return int64(p.Loc), api.OK
	}
	if int64(p.Type) != n.N {
		return 0, api.ErrRemote
	}
	for _, place := range n.Args {
		if place == p.Loc {
			return 1, api.OK
		}
	}
	return 0, api.OK
}

// Chan is the channel that an expression says.
func Chan(e *api.Env, x int) (int, api.Errno) {
	v, err := Eval(e, x)
	if err != api.OK {
		return 0, err
	}
	if v < 1 || v > int64(len(e.S.Chans)) {
		return 0, api.ErrChan
	}
	return int(v), api.OK
}

// Slot is which slot a variable has: the process (-1: global), the slot.
func Slot(e *api.Env, x int) (int, int, api.Errno) {
	n := &e.M.Exprs[x]
	if n.Op != api.XVar {
		return 0, 0, api.ErrInput
	}
	pid := -1
	switch n.V.Scope {
	case api.Local:
		if pid = e.Pid; pid < 0 {
			return 0, 0, api.ErrInput
		}
	case api.Remote:
		who, err := Eval(e, n.V.Who)
		if err != api.OK {
			return 0, 0, err
		}
		if who < 0 || who >= int64(len(e.S.Procs)) || e.S.Procs[who].Type != n.V.Type {
			return 0, 0, api.ErrRemote
		}
		pid = int(who)
	}
	if good.Reach(n.V) > len(slots(e, pid)) {
		return 0, 0, api.ErrInput
	}
	slot := n.V.Slot
	for _, d := range n.V.Dims {
		i, err := Eval(e, d.I)
		if err != api.OK {
			return 0, 0, err
		}
		if i < 0 || i >= int64(d.Len) {
			return 0, 0, api.ErrIndex
		}
		slot += int(i) * d.Stride
	}
	return pid, slot, api.OK
}

// slots are the numbers of a process's variables, or the global ones (-1).
func slots(e *api.Env, pid int) []int64 {
	if pid < 0 {
		return e.S.Globals
	}
	return e.S.Procs[pid].Frame
}

// Set makes a variable another number, in the Env's own state.
func Set(e *api.Env, x int, v int64) api.Errno {
	pid, slot, err := Slot(e, x)
	if err != api.OK {
		return err
	}
	types := e.M.Globals
	if pid >= 0 {
		types = e.M.Procs[e.S.Procs[pid].Type].Frame
	}
	slots(e, pid)[slot] = value.Fit(types[slot], v)
	return api.OK
}
