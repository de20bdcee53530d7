package regex

import "strainer/api"

// drawing is a net that is drawn: of each state the edges from it.
type drawing [][]api.Edge

// The states that each net has.
const (
	start = iota
	end
	first // of the others
)

// drawn is a part's net.
func drawn(p part) drawing {
	d := make(drawing, first)
	p.draw(&d, start, end)
	return d
}

// state is a new state.
func (d *drawing) state() int {
	*d = append(*d, nil)
	return len(*d) - 1
}

// edge lays an edge that takes one of some signs.
func (d drawing) edge(from, to int, low, high byte) {
	d[from] = append(d[from], api.Edge{From: from, To: to, Low: low, High: high})
}

// free lays an edge that takes none.
func (d drawing) free(from, to int) {
	d.edge(from, to, 1, 0)
}

// Others may be drawn from and to the same two states, and the two may be one. So what goes round has states of its own: else the others could be gone round with it.

func (t text) draw(d *drawing, from, to int) {
	if t == "" {
		d.free(from, to)
		return
	}
	last := len(t) - 1
	for i := range last {
		next := d.state()
		d.edge(from, next, t[i], t[i])
		from = next
	}
	d.edge(from, to, t[last], t[last])
}

func (s signs) draw(d *drawing, from, to int) {
	for low, high := range s.runs() {
		d.edge(from, to, low, high)
	}
}

func (r *row) draw(d *drawing, from, to int) {
	last := len(r.list) - 1
	for _, p := range r.list[:last] {
		next := d.state()
		p.draw(d, from, next)
		from = next
	}
	r.list[last].draw(d, from, to)
}

func (c *choice) draw(d *drawing, from, to int) {
	for _, p := range c.list {
		p.draw(d, from, to)
	}
}

func (t *times) draw(d *drawing, from, to int) {
	if t.sign == '?' {
		d.free(from, to)
		t.of.draw(d, from, to)
		return
	}
	again := d.state()
	done := again
	if t.sign == '+' {
		done = d.state()
		d.free(done, again)
	}
	d.free(from, again)
	t.of.draw(d, again, done)
	d.free(done, to)
}

// reads tells whether there is a way from the start to the end that takes just a text.
func (d drawing) reads(s string) bool {
	g := going{ways: d, met: make([]int, len(d)), taken: 1}
	g.meet(start)
	g.rest()
	for i := 0; i < len(s) && len(g.now) > 0; i++ {
		g.take(s[i])
		g.rest()
	}
	return g.met[end] == 1+len(s)
}

// going goes all ways of a net at once.
type going struct {
	ways  drawing
	now   []int // the states where it is
	spare []int // room for the next ones
	taken int   // how many signs it took, and one
	met   []int // of each state how many these were when it was met last
}

// meet comes to a state.
func (g *going) meet(state int) {
	if g.met[state] != g.taken {
		g.met[state] = g.taken
		g.now = append(g.now, state)
	}
}

// rest comes to the states that are reached by taking nothing, and from these on.
func (g *going) rest() {
	for i := 0; i < len(g.now); i++ {
		for _, e := range g.ways[g.now[i]] {
			if e.Low > e.High {
				g.meet(e.To)
			}
		}
	}
}

// take comes to the states that are reached by taking a sign, and leaves all others.
func (g *going) take(sign byte) {
	before := g.now
	g.now, g.spare = g.spare[:0], before
	g.taken++
	for _, state := range before {
		for _, e := range g.ways[state] {
			if e.Low <= sign && sign <= e.High {
				g.meet(e.To)
			}
		}
	}
}
