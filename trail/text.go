package trail

import (
	"strconv"
	"strings"

	"spinneret/api"
)

// line is a word and numbers.
func line(word string, numbers ...int) string {
	for _, n := range numbers {
		word += " " + strconv.Itoa(n)
	}
	return word + "\n"
}

// Print is what a search has come to as text.
func Print(f api.Found) (string, api.Errno) {
	if f.Kind < api.FoundClean || f.Kind > api.FoundReject || f.Cycle < -1 || f.Cycle >= len(f.Trail) {
		return "", api.ErrInput
	}
	var b strings.Builder
	b.WriteString(line("found", f.Kind, f.What, int(f.Err), f.At, f.States, f.Steps))
	for i, v := range f.Trail {
		if i == f.Cycle {
			b.WriteString(line("cycle"))
		}
		b.WriteString(line("move", v.Pid, v.Esc, v.Way, v.With, v.WithEsc, v.WithWay, v.Claim))
	}
	return b.String(), api.OK
}

// Parse reads it.
func Parse(s string) (api.Found, api.Errno, int) {
	f := api.Found{Cycle: -1}
	at, next := 0, 0
	open := false // a cycle has begun, and has no move yet
	var words string
	var whole bool
	var l []int
line:
	at = next
	if at == len(s) && at > 0 && !open {
		return f, api.OK, 0
	}
	if words, whole = cut(s[at:]); !whole {
		goto wrong
	}
	next = at + len(words) + 1
	switch {
	case at == 0:
		if l, whole = numbers(words, "found", 6); !whole || l[0] < api.FoundClean || l[0] > api.FoundReject {
			goto wrong
		}
		f.Kind, f.What, f.Err, f.At, f.States, f.Steps = l[0], l[1], api.Errno(l[2]), l[3], l[4], l[5]
		goto line
	case words == "cycle":
		if f.Cycle >= 0 {
			goto wrong
		}
		f.Cycle, open = len(f.Trail), true
		goto line
	default:
		if l, whole = numbers(words, "move", 7); !whole {
			goto wrong
		}
		f.Trail = append(f.Trail, api.Move{Pid: l[0], Esc: l[1], Way: l[2], With: l[3], WithEsc: l[4], WithWay: l[5], Claim: l[6]})
		open = false
		goto line
	}
wrong:
	return api.Found{}, api.ErrTrail, at
}

// cut is what stands ahead of the first line feed; false: there is none.
func cut(s string) (string, bool) {
	words, _, found := strings.Cut(s, "\n")
	return words, found
}

// numbers reads a line of a word and so many numbers.
func numbers(words, first string, count int) ([]int, bool) {
	parts := strings.Split(words, " ")
	if len(parts) != count+1 || parts[0] != first {
		return nil, false
	}
	var l []int
	for _, part := range parts[1:] {
		n, err := strconv.ParseInt(part, 10, 64)
		if err != nil || strconv.FormatInt(n, 10) != part {
			return nil, false
		}
		l = append(l, int(n))
	}
	return l, true
}
