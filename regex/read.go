package regex

import (
	"strings"

	"strainer/api"
)

// The signs that stand for themselves only behind a \, outside of a class and in one.
const (
	marks      = `\()[]|*+?.`
	classMarks = `\]-^`
)

// reader reads an expression. Each step takes what it reads away from what is left, and tells whether there was such a thing.
type reader struct {
	left string
}

// take takes a sign away, if it is the next one.
func (r *reader) take(sign byte) bool {
	if r.left == "" || r.left[0] != sign {
		return false
	}
	r.left = r.left[1:]
	return true
}

// sign takes a sign that stands for itself: one that is no mark, or any behind a \.
func (r *reader) sign(marks string) (byte, bool) {
	quoted := r.take('\\')
	if r.left == "" {
		return 0, false
	}
	c := r.left[0]
	if !isSign(c) || !quoted && strings.IndexByte(marks, c) >= 0 {
		return 0, false
	}
	r.left = r.left[1:]
	return c, true
}

// expression takes branches.
func (r *reader) expression() (part, bool) {
	var l []part
	for {
		p, ok := r.branch()
		if !ok {
			return nil, false
		}
		l = append(l, p)
		if !r.take('|') {
			return either(l...), true
		}
	}
}

// branch takes pieces, to what ends an expression or is told apart as its next branch.
func (r *reader) branch() (part, bool) {
	var l []part
	for r.left != "" && r.left[0] != '|' && r.left[0] != ')' {
		p, ok := r.atom()
		if !ok {
			return nil, false
		}
		for r.left != "" && strings.IndexByte("*+?", r.left[0]) >= 0 {
			p = repeated(p, r.left[0])
			r.left = r.left[1:]
		}
		l = append(l, p)
	}
	return joined(l...), true
}

// atom takes an atom.
func (r *reader) atom() (part, bool) {
	switch {
	case r.take('('):
		p, ok := r.expression()
		return p, ok && r.take(')')
	case r.take('['):
		s, ok := r.class()
		return s, ok && r.take(']')
	case r.take('.'):
		return signs{}.others(), true
	}
	c, ok := r.sign(marks)
	return text([]byte{c}), ok
}

// class takes a class, to the ] behind it.
func (r *reader) class() (signs, bool) {
	var s signs
	not := r.take('^')
	for items := 0; items == 0 || r.left != "" && r.left[0] != ']'; items++ {
		low, high, ok := r.item()
		if !ok {
			return signs{}, false
		}
		for i := low; i <= high; i++ {
			s[i-api.First] = true
		}
	}
	if not {
		s = s.others()
	}
	return s, true
}

// item takes one of a class: from which sign to which one.
func (r *reader) item() (byte, byte, bool) {
	low, ok := r.sign(classMarks)
	if !ok || !r.take('-') {
		return low, low, ok
	}
	high, ok := r.sign(classMarks)
	return low, high, ok && low <= high
}
