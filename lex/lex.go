// Package lex is layer 1: a source falls into tokens. See shared/doc/01-lex.md.
package lex

import (
	"strings"

	"spinneret/api"
)

// greatest is the greatest number that a source may name.
const greatest = 1<<31 - 1

// Marks of two bytes go ahead of those of one: the longest one counts.
const (
	longMarks  = "!! ?? -> :: ++ -- << >> <= >= == != && || .."
	shortMarks = "!?<>=+-*/%&|^~()[]{},;:.@#"
)

// Tokens are those of a source; what is wrong, and where.
func Tokens(s string) ([]api.Token, api.Errno, int) {
	if len(s) > api.MaxSource {
		return nil, api.ErrSize, api.MaxSource
	}
	var l []api.Token
	at, line := 0, 1
next:
	at, lines, closed := skip(s, at)
	line += lines
	if !closed {
		return nil, api.ErrOpen, at
	}
	if at == len(s) {
		return append(l, api.Token{Kind: api.TEnd, At: at, Line: line}), api.OK, 0
	}
	k, size, e := read(s[at:])
	if e == api.OK && len(l) == api.MaxTokens-1 {
		e = api.ErrMany
	}
	if e != api.OK {
		return nil, e, at
	}
	k.At, k.Line = at, line
	l = append(l, k)
	at += size
	goto next
}

// skip passes all blanks from a place on: where they end, how many lines end in them, and whether each comment is closed (if not, the place is the open one's).
func skip(s string, at int) (int, int, bool) {
	lines := 0
again:
	if at == len(s) {
		return at, lines, true
	}
	switch s[at] {
	case '\n':
		lines++
		fallthrough
	case ' ', '\t', '\f', '\r':
		at++
		goto again
	case '\\':
		if strings.HasPrefix(s[at:], "\\\n") {
			at += 2
			goto again
		}
	case '/':
		if strings.HasPrefix(s[at:], "//") {
			goto toLineEnd
		}
		if strings.HasPrefix(s[at:], "/*") {
			size := strings.Index(s[at+2:], "*/")
			if size < 0 {
				return at, lines, false
			}
			at += size + 4
			goto again
		}
	}
	return at, lines, true
toLineEnd:
	if at < len(s) && s[at] != '\n' {
		at++
		goto toLineEnd
	}
	goto again
}

// read reads the token with which a text begins, and how many bytes of the text it takes.
func read(s string) (api.Token, int, api.Errno) {
	c := s[0]
	switch {
	case isLetter(c):
		return readName(s)
	case isDigit(c):
		return readNumber(s)
	case c == '\'':
		return readByte(s)
	case c == '"':
		return readText(s)
	}
	if len(s) > 1 && isLongMark(s[:2]) {
		return api.Token{Kind: api.TMark, Text: s[:2]}, 2, api.OK
	}
	if strings.IndexByte(shortMarks, c) >= 0 {
		return api.Token{Kind: api.TMark, Text: s[:1]}, 1, api.OK
	}
	return api.Token{}, 0, api.ErrChar
}

func isLongMark(s string) bool {
	at := strings.Index(longMarks, s)
	return at >= 0 && at%3 == 0
}

func isLetter(c byte) bool {
	return c == '_' || c >= 'a' && c <= 'z' || c >= 'A' && c <= 'Z'
}

func isDigit(c byte) bool { return c >= '0' && c <= '9' }

func readName(s string) (api.Token, int, api.Errno) {
	size := 1
more:
	if size < len(s) && (isLetter(s[size]) || isDigit(s[size])) {
		size++
		goto more
	}
	if size > api.MaxName {
		return api.Token{}, 0, api.ErrLong
	}
	return api.Token{Kind: api.TName, Text: s[:size]}, size, api.OK
}

func readNumber(s string) (api.Token, int, api.Errno) {
	size := 0
	n := int64(0)
more:
	if size < len(s) && isDigit(s[size]) {
		// Beyond the greatest one it doesn't matter how far: so it can't go round.
		n = min(n*10+int64(s[size]-'0'), greatest+1)
		size++
		goto more
	}
	if n > greatest {
		return api.Token{}, 0, api.ErrNumber
	}
	return api.Token{Kind: api.TNum, Text: s[:size], N: n}, size, api.OK
}

// readByte reads a number that is written as a byte between two '.
func readByte(s string) (api.Token, int, api.Errno) {
	size := 3
	var n int64
	if len(s) < size {
		goto open
	}
	switch s[1] {
	case '\'', '\n':
		goto open
	case '\\':
		size = 4
		if len(s) < size {
			goto open
		}
		switch s[2] {
		case 'n':
			n = '\n'
		case 't':
			n = '\t'
		case '0':
			n = 0
		case '\\', '\'':
			n = int64(s[2])
		default:
			goto open
		}
	default:
		n = int64(s[1])
	}
	if s[size-1] != '\'' {
		goto open
	}
	return api.Token{Kind: api.TNum, Text: s[:size], N: n}, size, api.OK
open:
	return api.Token{}, 0, api.ErrOpen
}

func readText(s string) (api.Token, int, api.Errno) {
	at := 1
more:
	if at < len(s) && s[at] == '\\' {
		at++
		if at < len(s) && s[at] != '\n' {
			at++
			goto more
		}
	}
	if at >= len(s) || s[at] == '\n' {
		return api.Token{}, 0, api.ErrOpen
	}
	if s[at] != '"' {
		at++
		goto more
	}
	if at-1 > api.MaxString {
		return api.Token{}, 0, api.ErrLong
	}
	return api.Token{Kind: api.TText, Text: s[1:at]}, at + 1, api.OK
}

// Text is a row of tokens as a source.
func Text(l []api.Token) string {
	var b strings.Builder
	first, line := true, 0
	for _, k := range l {
		if k.Kind == api.TEnd {
			continue
		}
		if !first && k.Line == line {
			b.WriteByte(' ')
		} else if !first {
			b.WriteByte('\n')
		}
		first, line = false, k.Line
		if k.Kind == api.TText {
			b.WriteString("\"" + k.Text + "\"")
		} else {
			b.WriteString(k.Text)
		}
	}
	return b.String()
}
