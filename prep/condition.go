package prep

import "spinneret/api"

// reader reads a condition, and reckons it.
type reader struct {
	l     []api.Token
	at    int
	place int // where its errors are told
}

// takes passes the next token, if it is that mark.
func (r *reader) takes(mark string) bool {
	if r.at < len(r.l) && isMark(r.l[r.at], mark) {
		r.at++
		return true
	}
	return false
}

func truth(b bool) int64 {
	if b {
		return 1
	}
	return 0
}

func (r *reader) or(deep int) int64 {
	v := r.and(deep)
	for r.takes("||") {
		w := r.and(deep)
		v = truth(v != 0 || w != 0)
	}
	return v
}

func (r *reader) and(deep int) int64 {
	v := r.test(deep)
	for r.takes("&&") {
		w := r.test(deep)
		v = truth(v != 0 && w != 0)
	}
	return v
}

func (r *reader) test(deep int) int64 {
	v := r.one(deep)
	switch {
	case r.takes("=="):
		return truth(v == r.one(deep))
	case r.takes("!="):
		return truth(v != r.one(deep))
	case r.takes("<"):
		return truth(v < r.one(deep))
	case r.takes("<="):
		return truth(v <= r.one(deep))
	case r.takes(">"):
		return truth(v > r.one(deep))
	case r.takes(">="):
		return truth(v >= r.one(deep))
	}
	return v
}

// one reads a one that stands in so many others.
func (r *reader) one(deep int) int64 {
	if r.at == len(r.l) {
		fail(api.ErrPrep, r.place)
	}
	if deep == api.MaxMacro {
		fail(api.ErrDeep, r.place)
	}
	if r.takes("!") {
		return truth(r.one(deep+1) == 0)
	}
	if r.takes("(") {
		v := r.or(deep + 1)
		if !r.takes(")") {
			fail(api.ErrPrep, r.place)
		}
		return v
	}
	k := r.l[r.at]
	r.at++
	switch k.Kind {
	case api.TNum:
		return k.N
	case api.TName:
		return 0
	}
	fail(api.ErrPrep, r.place)
	return 0
}
