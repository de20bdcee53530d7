package regex

import (
	"slices"
	"strings"
)

// walk is a text, and where it may end what the parts that were asked match there. A part that stands in many others is asked once at each place, where a net would hold it as often as it stands.
type walk struct {
	text  string
	known map[place][]int
}

// place is a part, and where in a text it begins.
type place struct {
	part part
	at   int
}

// from tells where what a part matches from one place on may end, rising.
func (w *walk) from(p part, at int) []int {
	switch x := p.(type) {
	case text, signs: // quicker told than found
		return x.ends(w, at)
	}
	l, ok := w.known[place{p, at}]
	if !ok {
		l = p.ends(w, at)
		w.known[place{p, at}] = l
	}
	return l
}

// sorted is places, rising, each once.
func sorted(l []int) []int {
	slices.Sort(l)
	return slices.Compact(l)
}

func (t text) ends(w *walk, at int) []int {
	if strings.HasPrefix(w.text[at:], string(t)) {
		return []int{at + len(t)}
	}
	return nil
}

func (s signs) ends(w *walk, at int) []int {
	if at < len(w.text) && s.has(w.text[at]) {
		return []int{at + 1}
	}
	return nil
}

func (r *row) ends(w *walk, at int) []int {
	l := []int{at}
	for _, p := range r.list {
		var next []int
		for _, at := range l {
			next = append(next, w.from(p, at)...)
		}
		if l = sorted(next); len(l) == 0 {
			return nil
		}
	}
	return l
}

func (c *choice) ends(w *walk, at int) []int {
	var l []int
	for _, p := range c.list {
		l = append(l, w.from(p, at)...)
	}
	return sorted(l)
}

func (t *times) ends(w *walk, at int) []int {
	once := w.from(t.of, at)
	if t.sign == '?' {
		return sorted(append([]int{at}, once...))
	}
	l := []int{at}
	if t.sign == '+' {
		l = slices.Clone(once)
	}
	met := map[int]struct{}{}
	for _, at := range l {
		met[at] = struct{}{}
	}
	for i := 0; i < len(l); i++ {
		for _, at := range w.from(t.of, l[i]) {
			if _, ok := met[at]; !ok {
				met[at] = struct{}{}
				l = append(l, at)
			}
		}
	}
	return sorted(l)
}
