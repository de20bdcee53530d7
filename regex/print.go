package regex

import (
	"strings"

	"strainer/api"
)

// How much a part binds, as it is written: the more, the fewer brackets it needs.
const (
	ofChoice = iota // branches
	ofRow           // a branch
	ofPiece
	ofAtom
)

// binds is how much a part binds.
func binds(p part) int {
	switch x := p.(type) {
	case *choice:
		return ofChoice
	case *row:
		return ofRow
	case *times:
		return ofPiece
	case text:
		if len(x) != 1 {
			return ofRow
		}
	}
	return ofAtom
}

// show writes a part, in brackets, if it binds less than what it stands in asks for.
func show(out *strings.Builder, p part, least int) {
	if binds(p) < least {
		out.WriteByte('(')
		show(out, p, ofChoice)
		out.WriteByte(')')
		return
	}
	switch x := p.(type) {
	case text:
		for i := range len(x) {
			out.WriteString(quoted(x[i], marks))
		}
	case signs:
		out.WriteString(x.shown())
	case *row:
		for _, q := range x.list {
			show(out, q, ofRow)
		}
	case *choice:
		for i, q := range x.list {
			if i > 0 {
				out.WriteByte('|')
			}
			show(out, q, ofChoice)
		}
	case *times:
		show(out, x.of, ofAtom)
		out.WriteByte(x.sign)
	}
}

// quoted is a sign that stands for itself.
func quoted(sign byte, marks string) string {
	s := string(rune(sign))
	if strings.Contains(marks, s) {
		return `\` + s
	}
	return s
}

// shown is signs as an atom: as the shorter one of a class and one with ^, where nothing shorter tells them. A class can't be without items, so that no signs are all others.
func (s signs) shown() string {
	if s == (signs{}).others() {
		return "."
	}
	for c := range s.runs() {
		if s == only(c) {
			return quoted(c, marks)
		}
	}
	in, out := s.items(), "^"+s.others().items()
	if s == (signs{}) || len(out) < len(in) {
		in = out
	}
	return "[" + in + "]"
}

// only is one sign alone.
func only(sign byte) signs {
	var s signs
	s[sign-api.First] = true
	return s
}

// items is signs as the items of a class.
func (s signs) items() string {
	var out strings.Builder
	for low, high := range s.runs() {
		out.WriteString(quoted(low, classMarks))
		if high > low+1 {
			out.WriteByte('-')
		}
		if high > low {
			out.WriteString(quoted(high, classMarks))
		}
	}
	return out.String()
}
