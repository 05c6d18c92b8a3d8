package prep

import "spinneret/api"

// macro is a macro or an inline.
type macro struct {
	plain  bool // it has no parameters, as against an empty list of them
	params []string
	body   []api.Token
}

// user uses macros or inlines.
type user struct {
	inlines bool
	defs    map[string]macro
	uses    int
	told    []api.Token
}

func newUser(inlines bool) *user {
	return &user{inlines: inlines, defs: map[string]macro{}}
}

// tell does a row of tokens, and tells what comes of it.
func (u *user) tell(row []api.Token) {
	u.told = append(u.told, u.done(row)...)
	if len(u.told) > api.MaxTokens {
		fail(api.ErrMany, u.told[api.MaxTokens].At)
	}
}

// done is what comes of a row of tokens.
func (u *user) done(row []api.Token) []api.Token {
	var do func(l []api.Token, deep int) []api.Token
	do = func(l []api.Token, deep int) []api.Token {
		var out []api.Token
		for i := 0; i < len(l); {
			if d, ok := u.used(l[i:]); ok {
				args, size := u.arguments(d, l[i:])
				u.count(deep, l[i].At)
				out = append(out, do(u.replaced(d, args, l[i]), deep+1)...)
				if len(out) > api.MaxTokens {
					fail(api.ErrMany, l[i].At)
				}
				i += size
				continue
			}
			if len(out) == api.MaxTokens {
				fail(api.ErrMany, l[i].At)
			}
			out = append(out, l[i])
			i++
		}
		return out
	}
	return do(row, 0)
}

// used is the macro that is used by the first one of some tokens.
func (u *user) used(l []api.Token) (macro, bool) {
	if l[0].Kind != api.TName {
		return macro{}, false
	}
	d, ok := u.defs[l[0].Text]
	if !ok || !d.plain && (len(l) < 2 || !isMark(l[1], "(")) {
		return macro{}, false
	}
	return d, true
}

func (u *user) count(deep, at int) {
	if u.uses == api.MaxUses {
		fail(api.ErrMany, at)
	}
	u.uses++
	if deep == api.MaxMacro {
		fail(api.ErrDeep, at)
	}
}

// arguments are those of a use at the beginning of some tokens, and how many tokens the use has.
func (u *user) arguments(d macro, l []api.Token) ([][]api.Token, int) {
	if d.plain {
		return nil, 1
	}
	var args [][]api.Token
	open, from := 1, 2
	for i := 2; i < len(l); i++ {
		open += u.brackets(l[i])
		if open == 1 && isMark(l[i], ",") {
			args = append(args, l[from:i])
			from = i + 1
		}
		if open > 0 {
			continue
		}
		args = append(args, l[from:i])
		if !isMark(l[i], ")") || !fits(d.params, args) {
			break
		}
		return args, i + 1
	}
	fail(api.ErrPrep, l[0].At)
	return nil, 0
}

func fits(params []string, args [][]api.Token) bool {
	if len(params) == 0 {
		return len(args) == 1 && len(args[0]) == 0
	}
	return len(args) == len(params)
}

// brackets tells whether a token opens (1) or closes (-1) what keeps commas from parting arguments.
func (u *user) brackets(k api.Token) int {
	if k.Kind != api.TMark {
		return 0
	}
	switch k.Text {
	case "(":
		return 1
	case ")":
		return -1
	case "[", "{":
		if u.inlines {
			return 1
		}
	case "]", "}":
		if u.inlines {
			return -1
		}
	}
	return 0
}

// replaced is the body of a macro with its arguments, at the place of the name that is used.
func (u *user) replaced(d macro, args [][]api.Token, name api.Token) []api.Token {
	var out []api.Token
	put := func(l ...api.Token) {
		if len(out)+len(l) > api.MaxTokens {
			fail(api.ErrMany, name.At)
		}
		for _, k := range l {
			k.At, k.Line = name.At, name.Line
			out = append(out, k)
		}
	}
	if u.inlines {
		put(api.Token{Kind: api.TMark, Text: "{"})
	}
	for _, k := range d.body {
		if p := parameter(d, k); p >= 0 {
			put(args[p]...)
		} else {
			put(k)
		}
	}
	if u.inlines {
		put(api.Token{Kind: api.TMark, Text: "}"})
	}
	return out
}

// parameter is the place of the parameter that a token names; -1: none.
func parameter(d macro, k api.Token) int {
	if k.Kind == api.TName {
		for i, p := range d.params {
			if p == k.Text {
				return i
			}
		}
	}
	return -1
}

// define takes the definition of an inline at the beginning of some tokens: how many tokens it has.
func (u *user) define(l []api.Token) int {
	at := l[0].At
	if len(l) < 3 || l[1].Kind != api.TName || !isMark(l[2], "(") {
		fail(api.ErrPrep, at)
	}
	params, size := names(l[3:])
	body := 3 + size
	if size == 0 || body >= len(l) || !isMark(l[body], "{") {
		fail(api.ErrPrep, at)
	}
	end := body
	for open := 1; open > 0; {
		end++
		if end == len(l) {
			fail(api.ErrPrep, at)
		}
		open += braces(l[end])
	}
	if _, ok := u.defs[l[1].Text]; ok {
		fail(api.ErrPrep, at)
	}
	if len(u.defs) == api.MaxMacros {
		fail(api.ErrMany, at)
	}
	u.defs[l[1].Text] = macro{params: params, body: l[body+1 : end]}
	return end + 1
}
