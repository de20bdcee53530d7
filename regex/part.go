package regex

import (
	"iter"

	"strainer/api"
)

// part is an expression, or a part of one. Parts do not change once they are made, so that one may stand in many others, and more than once in one.
type part interface {
	count() int                    // of its parts and signs, each as often as it stands there
	draw(d *drawing, from, to int) // lays the ways from a state to another one that take just what matches
	ends(w *walk, at int) []int    // where what matches from a place of a text on may end, rising
}

// The parts.
type (
	text   string            // signs, one behind the other
	signs  [api.Signs]bool   // one of some signs, each told by how far it is behind the first
	row    struct{ several } // one behind the other
	choice struct{ several } // one of them
	times  struct {
		of   part
		sign byte // one of * + ?
	}
)

// several is parts, and how many these are with all that is in them.
type several struct {
	list []part
	all  int
}

// most is of how many parts a net is drawn to match by it. Those that share parts may be so many that no net could hold them.
const most = 1 << 20

// gather counts a list of parts. More than most are not told apart, which keeps the sums small.
func gather(l []part) several {
	all := 1
	for _, p := range l {
		all += p.count()
	}
	return several{l, min(all, most+1)}
}

func (t text) count() int    { return 1 + len(t) }
func (s signs) count() int   { return 1 }
func (s several) count() int { return s.all }
func (t *times) count() int  { return 1 + t.of.count() }

// joined is parts one behind the other. With one that matches nothing they are that one, and those that are the empty text are not kept: so neither grows, however often it is joined.
func joined(l ...part) part {
	var left []part
	for _, p := range l {
		switch p {
		case part(signs{}):
			return p
		case part(text("")):
		default:
			left = append(left, p)
		}
	}
	switch len(left) {
	case 0:
		return text("")
	case 1:
		return left[0]
	}
	return &row{gather(left)}
}

// either is one of some parts. One that is the same as one ahead of it is not kept.
func either(l ...part) part {
	var left []part
	met := map[part]struct{}{}
	for _, p := range l {
		if _, ok := met[p]; !ok {
			met[p] = struct{}{}
			left = append(left, p)
		}
	}
	switch len(left) {
	case 0:
		return signs{}
	case 1:
		return left[0]
	}
	return &choice{gather(left)}
}

// repeated is a part with a sign * + or ? behind it. Two of these signs are one: the sign that both are, else *.
func repeated(p part, sign byte) part {
	if t, ok := p.(*times); ok {
		if t.sign != sign {
			sign = '*'
		}
		p = t.of
	}
	return &times{p, sign}
}

// isSign tells whether a byte is a sign.
func isSign(c byte) bool {
	return api.First <= c && c <= api.Last
}

// has tells whether a byte is one of the signs.
func (s signs) has(c byte) bool {
	return isSign(c) && s[c-api.First]
}

// others is all signs but these.
func (s signs) others() signs {
	for i, in := range s {
		s[i] = !in
	}
	return s
}

// runs tells the signs as rows with no gap, from which one to which one, rising.
func (s signs) runs() iter.Seq2[byte, byte] {
	return func(yield func(byte, byte) bool) {
		for i := 0; i < len(s); i++ {
			first := i
			for i < len(s) && s[i] {
				i++
			}
			if i > first && !yield(byte(api.First+first), byte(api.First+i-1)) {
				return
			}
		}
	}
}
