package lex

import (
	"fmt"
	"strings"
	"testing"

	"spinneret/api"
)

func show(l []api.Token) string {
	var b strings.Builder
	for _, k := range l {
		fmt.Fprintf(&b, "%d@%d/%d[%s]%d ", k.Kind, k.At, k.Line, k.Text, k.N)
	}
	return strings.TrimSpace(b.String())
}

func told(s string) string {
	l, e, at := Tokens(s)
	if e != api.OK {
		if l != nil {
			return "tokens beside an error"
		}
		return fmt.Sprintf("error %d at %d", e, at)
	}
	if at != 0 {
		return "a place without an error"
	}
	return show(l)
}

func wrong(e api.Errno, at int) string { return fmt.Sprintf("error %d at %d", e, at) }

// P1.1: what tokens there are.
func TestTokens(t *testing.T) {
	for s, want := range map[string]string{
		"":                                "0@0/1[]0",
		"x1=='a'/**/+07":                  "1@0/1[x1]0 4@2/1[==]0 2@4/1['a']97 4@11/1[+]0 2@12/1[07]7 0@14/1[]0",
		"a\\\nb\nc":                       "1@0/1[a]0 1@3/1[b]0 1@5/2[c]0 0@6/2[]0",
		`"a\"b"`:                          `3@0/1[a\"b]0 0@6/1[]0`,
		"q??<x>>":                         "1@0/1[q]0 4@1/1[??]0 4@3/1[<]0 1@4/1[x]0 4@5/1[>>]0 0@7/1[]0",
		"a/*\n\n*/b\n":                    "1@0/1[a]0 1@7/1[b]0 0@9/2[]0",
		"a//b\\\nc":                       "1@0/1[a]0 1@6/2[c]0 0@7/2[]0",
		"a//b":                            "1@0/1[a]0 0@4/1[]0",
		" \t\f\r\n":                       "0@5/2[]0",
		`'\n''\t''\0''\\''\''`:            `2@0/1['\n']10 2@4/1['\t']9 2@8/1['\0']0 2@12/1['\\']92 2@16/1['\'']39 0@20/1[]0`,
		"'\"'":                            "2@0/1['\"']34 0@3/1[]0",
		"2147483647":                      "2@0/1[2147483647]2147483647 0@10/1[]0",
		"0000000000000000000000000000001": "2@0/1[0000000000000000000000000000001]1 0@31/1[]0",
		"azAZ_09:a!!b":                    "1@0/1[azAZ_09]0 4@7/1[:]0 1@8/1[a]0 4@9/1[!!]0 1@11/1[b]0 0@12/1[]0",
		"12ab_":                           "2@0/1[12]12 1@2/1[ab_]0 0@5/1[]0",
		"...":                             "4@0/1[..]0 4@2/1[.]0 0@3/1[]0",
		":::->-->=<==!==&&&|||":           "4@0/1[::]0 4@2/1[:]0 4@3/1[->]0 4@5/1[--]0 4@7/1[>=]0 4@9/1[<=]0 4@11/1[=]0 4@12/1[!=]0 4@14/1[=]0 4@15/1[&&]0 4@17/1[&]0 4@18/1[||]0 4@20/1[|]0 0@21/1[]0",
		"\"\xff\\x\"":                     "3@0/1[\xff\\x]0 0@5/1[]0",
		"/ /* */ *":                       "4@0/1[/]0 4@8/1[*]0 0@9/1[]0",
	} {
		if got := told(s); got != want {
			t.Errorf("%q: got %s, want %s", s, got, want)
		}
	}
	for _, c := range "!?<>=+-*/%&|^~()[]{},;:.@#" {
		if got, want := told(string(c)), "4@0/1["+string(c)+"]0 0@1/1[]0"; got != want {
			t.Errorf("%c: got %s", c, got)
		}
	}
}

// P1.1: what is wrong, and where.
func TestErrors(t *testing.T) {
	name, long := strings.Repeat("n", api.MaxName), strings.Repeat("s", api.MaxString)
	many := strings.Repeat("; ", api.MaxTokens-1)
	for s, want := range map[string]string{
		"$":                            wrong(api.ErrChar, 0),
		"a \x00":                       wrong(api.ErrChar, 2),
		"a \x0b":                       wrong(api.ErrChar, 2),
		"\\a":                          wrong(api.ErrChar, 0),
		"é":                            wrong(api.ErrChar, 0),
		"`":                            wrong(api.ErrChar, 0),
		" \"a":                         wrong(api.ErrOpen, 1),
		" \"a\n\"":                     wrong(api.ErrOpen, 1),
		"\"a\\\n\"":                    wrong(api.ErrOpen, 0),
		"\"\\":                         wrong(api.ErrOpen, 0),
		"''":                           wrong(api.ErrOpen, 0),
		"'''":                          wrong(api.ErrOpen, 0),
		"'ab'":                         wrong(api.ErrOpen, 0),
		"'\\a'":                        wrong(api.ErrOpen, 0),
		"'\\n":                         wrong(api.ErrOpen, 0),
		"'\n'":                         wrong(api.ErrOpen, 0),
		"'":                            wrong(api.ErrOpen, 0),
		"/*":                           wrong(api.ErrOpen, 0),
		"a /*/":                        wrong(api.ErrOpen, 2),
		"2147483648":                   wrong(api.ErrNumber, 0),
		"x 99999999999999999999999":    wrong(api.ErrNumber, 2),
		" " + name + "n":               wrong(api.ErrLong, 1),
		" \"" + long + "s\"":           wrong(api.ErrLong, 1),
		"\"" + long + "s":              wrong(api.ErrOpen, 0),
		many + "x":                     wrong(api.ErrMany, len(many)),
		many + "$":                     wrong(api.ErrChar, len(many)),
		many + "/*":                    wrong(api.ErrOpen, len(many)),
		strings.Repeat(" ", 65536):     wrong(api.ErrSize, 65535),
		strings.Repeat("$", 65536):     wrong(api.ErrSize, 65535),
		"$ " + strings.Repeat("n", 33): wrong(api.ErrChar, 0),
	} {
		if got := told(s); got != want {
			t.Errorf("%.40q: got %.60s, want %s", s, got, want)
		}
	}
	for _, s := range []string{name, "\"" + long + "\"", many, strings.Repeat(" ", 65535)} {
		if _, e, _ := Tokens(s); e != api.OK {
			t.Errorf("%.40q: error %d", s, e)
		}
	}
	if l, _, _ := Tokens(many); len(l) != api.MaxTokens {
		t.Errorf("%d tokens", len(l))
	}
}

// P1.2.
func TestText(t *testing.T) {
	l, _, _ := Tokens("a b\n\n\"c\" /* \n */ 'd'")
	if got := Text(l); got != "a b\n\"c\" 'd'" {
		t.Errorf("got %q", got)
	}
	odd := []api.Token{{Kind: api.TEnd, Text: "no"}, {Kind: 9, Text: "$$", Line: -3, At: -1}, {Kind: api.TEnd}, {Kind: api.TText, Line: -3}, {Kind: api.TMark, Text: "x", Line: 7}}
	if got := Text(odd); got != "$$ \"\"\nx" {
		t.Errorf("got %q", got)
	}
	if Text(nil) != "" {
		t.Error("a text of no tokens")
	}
}

// P1.3: there and back.
func TestThereAndBack(t *testing.T) {
	for _, s := range []string{"a b\nc/**/d \"x y\" 'a' '\\n'\n\n\n07>>> ..", "/\n/ *", "- - > -\\\n>", "a'b'\"c\"1d"} {
		l, _, _ := Tokens(s)
		again, e, _ := Tokens(Text(l))
		if e != api.OK || len(l) != len(again) {
			t.Fatalf("%q: error %d, %d tokens", s, e, len(again))
		}
		for i := range l {
			a, b := l[i], again[i]
			if a.Kind != b.Kind || a.Text != b.Text || a.N != b.N {
				t.Errorf("%q: token %d", s, i)
			}
			if i > 0 && a.Kind != api.TEnd && (a.Line == l[i-1].Line) != (b.Line == again[i-1].Line) {
				t.Errorf("%q: line of token %d", s, i)
			}
		}
	}
}
