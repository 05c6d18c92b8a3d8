package chart

import "bytes"

// sheet has points: x is the real part, y the imaginary one.
type sheet struct{ rows [][]byte }

// put puts a byte at a point.
func (s *sheet) put(at complex128, b byte) {
	x, y := int(real(at)), int(imag(at))
	for len(s.rows) <= y {
		s.rows = append(s.rows, nil)
	}
	for len(s.rows[y]) <= x {
		s.rows[y] = append(s.rows[y], ' ')
	}
	s.rows[y][x] = b
}

// write puts a text, and tells the point behind it.
func (s *sheet) write(at complex128, text string) complex128 {
	for i := range len(text) {
		s.put(at, text[i])
		at++
	}
	return at
}

// text is all rows, the first one always, without the blanks at their ends.
func (s *sheet) text() string {
	if len(s.rows) == 0 {
		return "\n"
	}
	var out []byte
	for _, row := range s.rows {
		out = append(out, bytes.TrimRight(row, " ")...)
		out = append(out, '\n')
	}
	return string(out)
}
