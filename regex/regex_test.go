package regex_test

import (
	"fmt"
	"slices"
	"strings"
	"testing"

	"strainer/api"
	"strainer/regex"
)

// The calls have just these signatures.
var (
	_ func(string) (*regex.Regex, api.Errno) = regex.Parse
	_ func(string) *regex.Regex              = regex.Literal
	_ func(...*regex.Regex) *regex.Regex     = regex.Or
	_ func(...*regex.Regex) *regex.Regex     = regex.Then
	_ func(*regex.Regex) *regex.Regex        = regex.Many
	_ func(*regex.Regex) string              = (*regex.Regex).Print
	_ func(*regex.Regex, string) bool        = (*regex.Regex).Match
	_ func(*regex.Regex) api.Net             = (*regex.Regex).Net
)

// cut is anything for a fault's report, which is to stay short.
func cut(x any) string {
	s := fmt.Sprintf("%+q", fmt.Sprint(x))
	return s[:min(len(s), 300)]
}

// parsed is the expression of a text that is one.
func parsed(t *testing.T, s string) *regex.Regex {
	t.Helper()
	r, e := regex.Parse(s)
	if e != api.OK || r == nil {
		t.Fatal(cut(s), e)
	}
	return r
}

// each tells all texts of up to so many of some bytes.
func each(bytes string, most int, tell func(string)) {
	tell("")
	if most == 0 {
		return
	}
	for i := range len(bytes) {
		each(bytes, most-1, func(s string) { tell(bytes[i:i+1] + s) })
	}
}

// signs is all signs.
func signs() string {
	var b []byte
	for c := 32; c <= 126; c++ {
		b = append(b, byte(c))
	}
	return string(b)
}

// world is all short texts of a few signs, in which languages are held against each other.
type world struct {
	bytes string
	texts []string
	place map[string]int
}

// language is which texts of a world there are in it.
type language [4]uint64

// newWorld is the texts of up to so many of some bytes.
func newWorld(bytes string, most int) *world {
	w := &world{bytes: bytes, place: map[string]int{}}
	each(bytes, most, func(s string) {
		w.place[s] = len(w.texts)
		w.texts = append(w.texts, s)
	})
	if len(w.texts) > 256 {
		panic("too many texts")
	}
	return w
}

// has tells whether the text of that number is in a language.
func (l language) has(i int) bool { return l[i/64]>>(i%64)&1 == 1 }

// put is a language with a text more; one that is not in the world is left out.
func (w *world) put(l language, s string) language {
	if i, ok := w.place[s]; ok {
		l[i/64] |= 1 << (i % 64)
	}
	return l
}

// of is the language of some texts.
func (w *world) of(texts ...string) language {
	var l language
	for _, s := range texts {
		l = w.put(l, s)
	}
	return l
}

// such is the language of the world's texts of which something holds.
func (w *world) such(holds func(string) bool) language {
	var l language
	for _, s := range w.texts {
		if holds(s) {
			l = w.put(l, s)
		}
	}
	return l
}

// or is what is in one of some languages.
func or(l ...language) language {
	var out language
	for _, m := range l {
		for i := range out {
			out[i] |= m[i]
		}
	}
	return out
}

// then is what stands in languages one behind the other.
func (w *world) then(l ...language) language {
	out := w.of("")
	for _, m := range l {
		var next language
		for i, s := range w.texts {
			if !out.has(i) {
				continue
			}
			for j, u := range w.texts {
				if m.has(j) {
					next = w.put(next, s+u)
				}
			}
		}
		out = next
	}
	return out
}

// many is a language's texts, none or more times.
func (w *world) many(l language) language {
	out := w.of("")
	for {
		next := or(out, w.then(out, l))
		if next == out {
			return out
		}
		out = next
	}
}

// names is a language's texts, for a report.
func (w *world) names(l language) string {
	var out []string
	for i, s := range w.texts {
		if l.has(i) {
			out = append(out, s)
		}
	}
	return cut(out)
}

// matched is what an expression matches.
func (w *world) matched(r *regex.Regex) language { return w.such(r.Match) }

// gone is the texts of a world on which there is a way through a net, found step by step along the texts.
func (w *world) gone(n api.Net) language {
	var l language
	var walk func(s string, at []bool)
	walk = func(s string, at []bool) {
		for again := true; again; {
			again = false
			for _, e := range n.Edges {
				if e.Low > e.High && at[e.From] && !at[e.To] {
					at[e.To], again = true, true
				}
			}
		}
		if at[n.End] {
			l = w.put(l, s)
		}
		if _, ok := w.place[s+w.bytes[:1]]; !ok || !slices.Contains(at, true) {
			return
		}
		for i := range len(w.bytes) {
			next := make([]bool, n.States)
			for _, e := range n.Edges {
				if at[e.From] && e.Low <= w.bytes[i] && w.bytes[i] <= e.High {
					next[e.To] = true
				}
			}
			walk(s+w.bytes[i:i+1], next)
		}
	}
	at := make([]bool, n.States)
	at[n.Start] = true
	walk("", at)
	return l
}

// sound tells what is wrong with a net, as far as the chapter's words say what nets are.
func sound(n api.Net) string {
	in := func(i int) bool { return 0 <= i && i < n.States }
	if !in(n.Start) || !in(n.End) {
		return "start or end is no state"
	}
	for _, e := range n.Edges {
		if !in(e.From) || !in(e.To) {
			return "an edge's end is no state"
		}
		if e.Low <= e.High && (e.Low < 32 || e.High > 126) {
			return "an edge takes what is no sign"
		}
	}
	return ""
}

// grammar is the chapter's words on expressions, each tried at all places of a text, and what they match in a world.
type grammar struct {
	*world
	met map[string]meaning // of each kind of thing, and the text behind a blank
}

// meaning is whether a text is a thing of some kind, and what it matches.
type meaning struct {
	ok bool
	l  language
}

// words is the grammar in a world.
func words(w *world) *grammar { return &grammar{w, map[string]meaning{}} }

// ask is what a text is as a thing of a kind, asked once.
func (g *grammar) ask(kind, s string, make func(string) meaning) meaning {
	m, ok := g.met[kind+s]
	if !ok {
		m = make(s)
		g.met[kind+s] = m
	}
	return m
}

// expression: one or more branches with | between.
func (g *grammar) expression(s string) meaning {
	return g.ask("e", s, func(s string) meaning {
		m := g.branch(s)
		for i := range len(s) {
			if s[i] != '|' {
				continue
			}
			if a, b := g.branch(s[:i]), g.expression(s[i+1:]); a.ok && b.ok {
				m = meaning{true, or(m.l, a.l, b.l)}
			}
		}
		return m
	})
}

// branch: pieces, none or more.
func (g *grammar) branch(s string) meaning {
	return g.ask("b", s, func(s string) meaning {
		if s == "" {
			return meaning{true, g.of("")}
		}
		for i := 1; i <= len(s); i++ {
			if a, b := g.piece(s[:i]), g.branch(s[i:]); a.ok && b.ok {
				return meaning{true, g.then(a.l, b.l)}
			}
		}
		return meaning{}
	})
}

// piece: an atom, or a piece and * + or ? behind it.
func (g *grammar) piece(s string) meaning {
	return g.ask("p", s, func(s string) meaning {
		if m := g.atom(s); m.ok || s == "" {
			return m
		}
		m := g.piece(s[:len(s)-1])
		if !m.ok {
			return m
		}
		switch s[len(s)-1] {
		case '*':
			return meaning{true, g.many(m.l)}
		case '+':
			return meaning{true, g.then(m.l, g.many(m.l))}
		case '?':
			return meaning{true, or(m.l, g.of(""))}
		}
		return meaning{}
	})
}

// atom: brackets, a dot, a class, a sign behind a \, a sign that is no mark.
func (g *grammar) atom(s string) meaning {
	n := len(s)
	switch {
	case n >= 2 && s[0] == '(' && s[n-1] == ')':
		return g.expression(s[1 : n-1])
	case n >= 2 && s[0] == '[' && s[n-1] == ']':
		chosen, ok := class(s[1 : n-1])
		return meaning{ok, g.such(func(t string) bool { return ok && len(t) == 1 && chosen[t[0]] })}
	case s == ".":
		return meaning{true, g.such(func(t string) bool { return len(t) == 1 && sign(t[0]) })}
	case n == 2 && s[0] == '\\' && sign(s[1]):
		return meaning{true, g.of(s[1:])}
	case n == 1 && sign(s[0]) && !strings.Contains("\\()[]|*+?.", s):
		return meaning{true, g.of(s)}
	}
	return meaning{}
}

// sign tells whether a byte is a sign.
func sign(c byte) bool { return c >= 32 && c <= 126 }

// class is which bytes a class has, and whether it is one.
func class(s string) (map[byte]bool, bool) {
	if rest, ok := strings.CutPrefix(s, "^"); ok {
		in, ok := items(rest)
		out := map[byte]bool{}
		for c := byte(32); c <= 126; c++ {
			out[c] = !in[c]
		}
		return out, ok
	}
	return items(s)
}

// items is which bytes there are in one item or more, wherever the first one ends.
func items(s string) (map[byte]bool, bool) {
	for i := 1; i <= len(s); i++ {
		low, high, ok := item(s[:i])
		if !ok {
			continue
		}
		rest := map[byte]bool{}
		if i < len(s) {
			if rest, ok = items(s[i:]); !ok {
				continue
			}
		}
		for c := low; c <= high; c++ {
			rest[c] = true
		}
		return rest, true
	}
	return nil, false
}

// item is from which byte to which one an item goes.
func item(s string) (low, high byte, ok bool) {
	if low, ok = member(s); ok {
		return low, low, true
	}
	for i := range len(s) {
		if s[i] == '-' {
			low, a := member(s[:i])
			if high, b := member(s[i+1:]); a && b && low <= high {
				return low, high, true
			}
		}
	}
	return 0, 0, false
}

// member is a sign of a class.
func member(s string) (byte, bool) {
	switch {
	case len(s) == 2 && s[0] == '\\' && sign(s[1]):
		return s[1], true
	case len(s) == 1 && sign(s[0]) && !strings.Contains("\\]-^", s):
		return s[0], true
	}
	return 0, false
}

// whole holds all that is told of one text against the chapter's words.
func whole(t *testing.T, g *grammar, s string) bool {
	t.Helper()
	want := g.expression(s)
	r, e := regex.Parse(s)
	if !want.ok {
		if r != nil || e != api.ErrForm {
			t.Error(cut(s), "is none:", e)
		}
		return false
	}
	if r == nil || e != api.OK {
		t.Error(cut(s), "is one:", e)
		return false
	}
	if got := g.matched(r); got != want.l {
		t.Error(cut(s), "matches", g.names(got), "not", g.names(want.l))
	}
	n := r.Net()
	if fault := sound(n); fault != "" {
		t.Error(cut(s), fault)
	} else if got := g.gone(n); got != want.l {
		t.Error(cut(s), "has a net of", g.names(got), "not", g.names(want.l))
	}
	p := r.Print()
	if again := g.expression(p); !again.ok || again.l != want.l {
		t.Error(cut(s), "is printed as", cut(p))
	}
	if q, e := regex.Parse(p); len(p) <= api.MaxRegex && (e != api.OK || g.matched(q) != want.l) {
		t.Error(cut(s), "is printed as", cut(p), "and that is", e)
	}
	return true
}

// P9.1, P9.3, P9.4: all short texts of the marks that get into one another's way.
func TestAllShort(t *testing.T) {
	for _, c := range []struct {
		bytes string
		most  int
		in    *world
	}{
		{"ab|*+?()", 5, newWorld("ab", 4)},
		{"a|*()", 7, newWorld("ab", 3)},
		{"ac[]^-\\", 6, newWorld("abc-^", 1)},
		{"[]^-\\a.*\x7f", 4, newWorld("ab]^-\\.\x1f\x7f", 2)},
		{"()[]|a\\", 5, newWorld("a()[]|\\", 2)},
	} {
		g, good := words(c.in), 0
		each(c.bytes, c.most, func(s string) {
			if whole(t, g, s) {
				good++
			}
		})
		if good < 100 {
			t.Error(c.bytes, "makes few expressions:", good)
		}
	}
}

// P9.1: what may not be parsed, the length ahead of the form.
func TestParseWrong(t *testing.T) {
	for _, c := range []struct {
		s string
		e api.Errno
	}{
		{"", api.OK}, {"a", api.OK}, {" ", api.OK}, {"~", api.OK}, {"^-{}$", api.OK}, {"|", api.OK}, {"()", api.OK}, {"(||)", api.OK},
		{strings.Repeat("a", 60), api.OK}, {strings.Repeat("a", 61), api.ErrLong},
		{strings.Repeat("(", 30) + strings.Repeat(")", 30), api.OK}, {strings.Repeat("(", 60), api.ErrForm}, {strings.Repeat("(", 61), api.ErrLong},
		{strings.Repeat("(", 31) + strings.Repeat(")", 30), api.ErrLong}, {strings.Repeat("(", 30) + strings.Repeat(")", 29), api.ErrForm},
		{"a" + strings.Repeat("*", 59), api.OK}, {"a" + strings.Repeat("?", 60), api.ErrLong}, {strings.Repeat("*", 60), api.ErrForm}, {strings.Repeat("*", 61), api.ErrLong},
		{"[" + strings.Repeat("a", 58) + "]", api.OK}, {"[" + strings.Repeat("a", 59), api.ErrForm}, {"[" + strings.Repeat("a", 60), api.ErrLong},
		{strings.Repeat("\x7f", 60), api.ErrForm}, {strings.Repeat("\x7f", 61), api.ErrLong}, {strings.Repeat("\xc3\xa9", 31), api.ErrLong},
		{"*", api.ErrForm}, {"+", api.ErrForm}, {"?", api.ErrForm}, {"a|*", api.ErrForm}, {"|?", api.ErrForm}, {"(+)", api.ErrForm}, {"(*a)", api.ErrForm}, {"()*", api.OK}, {"a**", api.OK}, {"(a|)+?*", api.OK},
		{"(", api.ErrForm}, {")", api.ErrForm}, {"(a", api.ErrForm}, {"a)", api.ErrForm}, {")(", api.ErrForm}, {"(()", api.ErrForm}, {"())", api.ErrForm}, {"(a|b", api.ErrForm}, {"a|b)", api.ErrForm},
		{"[", api.ErrForm}, {"]", api.ErrForm}, {"[]", api.ErrForm}, {"[^]", api.ErrForm}, {"[a", api.ErrForm}, {"a]", api.ErrForm}, {"[[]", api.OK}, {"[]]", api.ErrForm}, {"[a]]", api.ErrForm}, {"[(]", api.OK}, {"([)]", api.ErrForm},
		{"[a-a]", api.OK}, {"[b-a]", api.ErrForm}, {"[ -~]", api.OK}, {"[~- ]", api.ErrForm}, {"[a-]", api.ErrForm}, {"[-a]", api.ErrForm}, {"[-]", api.ErrForm}, {"[--a]", api.ErrForm}, {"[a-b-c]", api.ErrForm}, {"[a-bc-d]", api.OK}, {"[^-a]", api.ErrForm}, {"[^a-]", api.ErrForm},
		{"[^^]", api.ErrForm}, {"[a^]", api.ErrForm}, {"[\\^]", api.OK}, {"[^\\^]", api.OK}, {"[a-^]", api.ErrForm}, {"[A-\\^]", api.OK}, {"[\\--a]", api.OK}, {"[\\a-\\b]", api.OK}, {"[\\]", api.ErrForm}, {"[\\]]", api.OK}, {"[a-\\]", api.ErrForm}, {"[a-\\]]", api.ErrForm}, {"[A-\\]]", api.OK},
		{"\\", api.ErrForm}, {"a\\", api.ErrForm}, {"\\\\", api.OK}, {"\\\\\\", api.ErrForm}, {"(\\)", api.ErrForm}, {"\\a", api.OK}, {"\\ ", api.OK}, {"\\\x7f", api.ErrForm}, {"\\\n", api.ErrForm}, {"[\\\x1f]", api.ErrForm},
		{"\x00", api.ErrForm}, {"\x1f", api.ErrForm}, {"a\n", api.ErrForm}, {"\x7f", api.ErrForm}, {"[\x7f]", api.ErrForm}, {"[a-\x7f]", api.ErrForm}, {"[\x1f-a]", api.ErrForm}, {"\xff", api.ErrForm}, {"\u00e9", api.ErrForm}, {"[\u00e9]", api.ErrForm},
	} {
		r, e := regex.Parse(c.s)
		if e != c.e || (r != nil) != (e == api.OK) {
			t.Error(cut(c.s), "is", e, "not", c.e)
		}
	}
}

// bytesOf is which single bytes an expression matches.
func bytesOf(r *regex.Regex) string {
	var b []byte
	for c := range 256 {
		if r.Match(string([]byte{byte(c)})) {
			b = append(b, byte(c))
		}
	}
	return string(b)
}

// P9.1: each byte, as what is matched, as an expression, behind a \, and in a class.
func TestBytes(t *testing.T) {
	for _, s := range []string{".", "[ -~]", ".+", "(.|.*)*", "[^a]|."} {
		if got := bytesOf(parsed(t, s)); got != signs() {
			t.Error(cut(s), "matches", cut(got))
		}
	}
	for b := range 256 {
		one := string([]byte{byte(b)})
		in := sign(byte(b))
		for _, c := range []struct {
			s, matches string
			ok         bool
		}{
			{one, one, in && !strings.Contains(`\()[]|*+?.`, one)},
			{`\` + one, one, in},
			{"[" + one + "]", one, in && !strings.Contains(`\]-^`, one)},
			{`[\` + one + "]", one, in},
			{`[^\` + one + "]", strings.ReplaceAll(signs(), one, ""), in},
			{`[\` + one + `-\` + one + "]", one, in},
		} {
			if c.s == "." || c.s == "|" {
				continue // expressions, but no signs that stand for themselves
			}
			r, e := regex.Parse(c.s)
			if (e == api.OK) != c.ok {
				t.Error(cut(c.s), e)
			} else if c.ok && bytesOf(r) != c.matches {
				t.Error(cut(c.s), "matches", cut(bytesOf(r)))
			}
		}
	}
}

// P9.1: classes over all bytes, and what is printed of them.
func TestClasses(t *testing.T) {
	all := signs()
	for _, c := range []struct{ s, in string }{
		{"a", "a"}, {"aa", "a"}, {"ba", "ab"}, {"a-a", "a"}, {"a-c", "abc"}, {"a-cb-d", "abcd"}, {"a-cx", "abcx"}, {"xa-c", "abcx"}, {"a-cc-e", "abcde"}, {"a-bd-e", "abde"},
		{"\\]", "]"}, {"\\\\", "\\"}, {"\\-", "-"}, {"\\^", "^"}, {"\\]-\\^", "]^"}, {"\\a-\\c", "abc"}, {"[-\\]", "[\\]"}, {"+-.", "+,-."}, {"*-/", "*+,-./"}, {"\\--/", "-./"}, {"Z-a", "Z[\\]^_`a"},
		{" -~", all}, {" -}", all[:94]}, {"!-~", all[1:]}, {" ", " "}, {"~", "~"}, {"(|)*+?.[", "(|)*+?.["},
	} {
		for _, not := range []string{"", "^"} {
			s := "[" + not + c.s + "]"
			r := parsed(t, s)
			again := parsed(t, r.Print())
			for b := range 256 {
				u := string([]byte{byte(b)})
				want := strings.Contains(c.in, u) != (not == "^") && sign(byte(b))
				if r.Match(u) != want || again.Match(u) != want {
					t.Error(cut(s), "and", b)
				}
			}
			if len(again.Print()) > len(s) {
				t.Error(cut(s), "is printed longer:", cut(r.Print()))
			}
			if r.Match("") || r.Match("aa") {
				t.Error(cut(s), "matches none, or two")
			}
		}
	}
}

// P9.1: Match asks all of the text.
func TestMatch(t *testing.T) {
	for _, c := range []struct {
		s       string
		yes, no []string
	}{
		{"a(b|c)*", []string{"a", "acb", "abbbc"}, []string{"", "b", "ab1", "aa", "acb\n"}},
		{"", []string{""}, []string{"a", " ", "\n"}},
		{"|", []string{""}, []string{"|", "a"}},
		{"()()", []string{""}, []string{"()", "a"}},
		{"(|a|)b", []string{"b", "ab"}, []string{"a", "aab", ""}},
		{"a|bc|", []string{"a", "bc", ""}, []string{"ac", "b", "abc"}},
		{"ab*", []string{"a", "ab", "abb"}, []string{"abab", "b"}},
		{"(ab)*", []string{"", "ab", "abab"}, []string{"a", "aba", "abb"}},
		{"a+*", []string{"", "aa"}, []string{"b"}},
		{"a*+", []string{"", "aa"}, []string{"b"}},
		{"a?+", []string{"", "a", "aa"}, []string{"b"}},
		{"a+?", []string{"", "a", "aa"}, []string{"b"}},
		{"a??", []string{"", "a"}, []string{"aa"}},
		{"a++", []string{"a", "aa"}, []string{""}},
		{"(a+)+b", []string{"ab", "aab"}, []string{"b", "a"}},
		{"()+*?a", []string{"a"}, []string{"", "aa"}},
		{"(a*)*", []string{"", "a", "aa"}, []string{"b"}},
		{"(a*b*)+c", []string{"c", "abac"}, []string{"", "ab"}},
		{"((a?b)+c?)*", []string{"", "b", "abab", "abcb"}, []string{"c", "aa", "abcc"}},
		{"(a|b)*a(a|b)(a|b)", []string{"aaa", "babb"}, []string{"aa", "bbb"}},
		{"[^ -~]*", []string{""}, []string{"a", "\x7f"}},
		{"[^ -~]|a", []string{"a"}, []string{""}},
		{"a[^ -~]", nil, []string{"", "a", "aa"}},
		{"[^ -~]+", nil, []string{"", "a"}},
		{"[^ -~]?b", []string{"b"}, []string{"", "ab"}},
		{".*", []string{"", " ~", signs()}, []string{"\x1f", "a\x7f", "\u00e9", "a\nb"}},
		{"A-^", []string{"A-^"}, []string{"B", "a-^"}},
	} {
		r := parsed(t, c.s)
		p := parsed(t, r.Print())
		for _, u := range c.yes {
			if !r.Match(u) || !p.Match(u) {
				t.Error(cut(c.s), "or", cut(p.Print()), "does not match", cut(u))
			}
		}
		for _, u := range c.no {
			if r.Match(u) || p.Match(u) {
				t.Error(cut(c.s), "or", cut(p.Print()), "matches", cut(u))
			}
		}
	}
}

// P9.2: a literal matches its text alone, whatever marks there are in it, and nothing, if a byte of it is no sign.
func TestLiteral(t *testing.T) {
	for b := range 256 {
		one := string([]byte{byte(b)})
		want := ""
		if sign(byte(b)) {
			want = one
		}
		if got := bytesOf(regex.Literal(one)); got != want {
			t.Error(b, "matches", cut(got))
		}
		for _, s := range []string{one + "ab", "a" + one + "b", "ab" + one} {
			r := regex.Literal(s)
			if r.Match(s) != sign(byte(b)) || r.Match("ab") || r.Match(s+"b") || r.Match("") {
				t.Error(cut(s))
			}
		}
	}
	for _, s := range []string{"", "a", "a.b", "(a|b)*", "[a]", `\a`, "a*", "|", signs()} {
		r := regex.Literal(s)
		for _, u := range []string{"", "a", "b", "a.b", "axb", "(a|b)*", "[a]", `\a`, "aa", "a*", "|", signs(), s + "a", "a" + s, s + s} {
			if r.Match(u) != (s == u) {
				t.Error(cut(s), "and", cut(u))
			}
		}
		if fault := sound(r.Net()); fault != "" {
			t.Error(cut(s), fault)
		}
	}
}

// made is an expression, and what it is to match.
type made struct {
	r *regex.Regex
	l language
	s string // how it was made
}

// first is expressions that others are made of, each of what a call of another kind gave.
func first(t *testing.T, w *world) []made {
	var out []made
	for _, s := range []string{"", "a", "ab", "b\x7f", "\n"} {
		out = append(out, made{regex.Literal(s), w.such(func(u string) bool { return u == s && !strings.ContainsAny(s, "\x7f\n") }), cut(s)})
	}
	g := words(w)
	for _, s := range []string{"", "a|b", "[^ -~]", ".", "a*", "b+", "(ab)?", "(a|)b", "a+b+", "[^ -~]*"} {
		out = append(out, made{parsed(t, s), g.expression(s).l, s})
	}
	return append(out, made{regex.Or(), w.of(), "or()"}, made{regex.Then(), w.of(""), "then()"})
}

// joins is all that the calls make of one, two or three of some expressions.
func joins(w *world, l []made) []made {
	var out []made
	for _, a := range l {
		out = append(out, made{regex.Or(a.r), a.l, "or(" + a.s + ")"}, made{regex.Then(a.r), a.l, "then(" + a.s + ")"}, made{regex.Many(a.r), w.many(a.l), "many(" + a.s + ")"})
		for i, b := range l {
			c := l[(2*i+1)%len(l)]
			out = append(out,
				made{regex.Or(a.r, b.r), or(a.l, b.l), "or(" + a.s + "," + b.s + ")"},
				made{regex.Then(a.r, b.r), w.then(a.l, b.l), "then(" + a.s + "," + b.s + ")"},
				made{regex.Or(a.r, b.r, c.r), or(a.l, b.l, c.l), "or(" + a.s + "," + b.s + "," + c.s + ")"},
				made{regex.Then(a.r, b.r, c.r), w.then(a.l, b.l, c.l), "then(" + a.s + "," + b.s + "," + c.s + ")"},
				made{regex.Many(regex.Then(regex.Or(a.r, b.r), c.r)), w.many(w.then(or(a.l, b.l), c.l)), "many(then(or(" + a.s + "," + b.s + ")," + c.s + "))"})
		}
	}
	return out
}

// doubled is an expression behind itself, again and again.
func doubled(r *regex.Regex, times int) *regex.Regex {
	for range times {
		r = regex.Then(r, r)
	}
	return r
}

// wide is an expression behind itself very often.
func wide(r *regex.Regex) *regex.Regex {
	return regex.Then(slices.Repeat([]*regex.Regex{r}, 1100)...)
}

// much matches no text of a world.
var much = wide(wide(regex.Literal("!")))

// beside is an expression with much beside it: it matches the same in a world, but is too large to be gone through like others.
func beside(r *regex.Regex) *regex.Regex { return regex.Or(r, much) }

// P9.2, P9.3: what the calls make of none, of one and of many, and again of that, and the nets of it.
func TestJoins(t *testing.T) {
	w := newWorld("ab\x7f", 3)
	one := joins(w, first(t, w))
	var few []made // every so many, so that the next ones are not too many
	for i := 0; i < len(one); i += 29 {
		few = append(few, one[i])
	}
	for _, m := range append(one, joins(w, few)...) {
		if got := w.matched(m.r); got != m.l {
			t.Error(cut(m.s), "matches", w.names(got), "not", w.names(m.l))
		}
		if got := w.matched(beside(m.r)); got != m.l {
			t.Error(cut(m.s), "with much beside it matches", w.names(got), "not", w.names(m.l))
		}
		n := m.r.Net()
		if fault := sound(n); fault != "" {
			t.Error(cut(m.s), fault)
		} else if got := w.gone(n); got != m.l {
			t.Error(cut(m.s), "has a net of", w.names(got), "not", w.names(m.l))
		}
	}
}

// P9.3, P9.4: what is printed is an expression that matches the same, also where signs need a \, and brackets are needed or not.
func TestPrint(t *testing.T) {
	w := newWorld("ab.*", 3)
	g := words(w)
	for _, s := range []string{
		"", "|", "()", "(|)", "a", "ab", "a|b", "a|b|", "|a", "(a|b)a", "a(b|a)", "a(b)", "(ab)*", "ab*", "(a|b)*", "(a*)*", "(a*b)+", "((a|b)?a)*", "()*", "(|a)+b", "((ab)a)(b)", "(a|(b|.))|a",
		"[ab]*", "[a]", "[^a]", "[^ -~]", "[^ -~]a|b", ".", "[ -~]", "[^b]+", `\.`, `\.\*`, `(\.)*`, `\**`, `[.*]`, `[.]`, `[*-.]`, `(\.|\*)+`, "a+?*", "a?+b", "(a?|b)+", "(a+b+)+", "a??",
	} {
		whole(t, g, s)
	}
	for _, s := range []string{`\`, "(", ")", "[", "]", "|", "*", "+", "?", ".", "-", "^", "a", " ", "~"} {
		for _, u := range []string{`\` + s, `(\` + s + ")*", `[\` + s + "]", `[\` + s + "#]", `[^\` + s + "]", `[^\` + s + "#]"} {
			r := parsed(t, u)
			again := parsed(t, r.Print())
			if bytesOf(again) != bytesOf(r) || again.Match("") != r.Match("") || len(r.Print()) > len(u) {
				t.Error(cut(u), "is printed as", cut(r.Print()))
			}
		}
	}
}

// P9.3, P9.4: long expressions are printed so that they are parsed again, as they are no longer than they were.
func TestPrintLong(t *testing.T) {
	parts := []string{"a", "b", "(a|b)", "[^a]", "[a-c]", "*", "+", "?", "|", "(", ")", ".", `\.`, "()", "(|a)"}
	seed, good := uint32(1), 0
	w := newWorld("ab.", 3)
	for range 20000 {
		s := ""
		for len(s) < int(seed>>8%61) && len(s) < 57 {
			seed = seed*1664525 + 1013904223
			s += parts[int(seed>>16)%len(parts)]
		}
		seed = seed*1664525 + 1013904223
		r, e := regex.Parse(s)
		if e != api.OK {
			continue
		}
		good++
		q, e := regex.Parse(r.Print())
		if e != api.OK || w.matched(q) != w.matched(r) || w.gone(q.Net()) != w.gone(r.Net()) || w.gone(r.Net()) != w.matched(r) || w.matched(beside(r)) != w.matched(r) {
			t.Error(cut(s), "is printed as", cut(r.Print()), e)
		}
	}
	if good < 200 {
		t.Error("few expressions:", good)
	}
}

// P9.3: nets that are not too large for what goes by them, whatever there is in an expression.
func TestNetsAreSmall(t *testing.T) {
	for _, s := range []string{
		strings.Repeat("a", 60), strings.Repeat("a+", 30), strings.Repeat("a?", 30), strings.Repeat("a*", 30), strings.Repeat("a|", 30), strings.Repeat("(", 15) + strings.Repeat("a+)+", 11),
		strings.Repeat("(", 14) + "a" + strings.Repeat("b)+", 14), strings.Repeat("[ac]", 15), strings.Repeat("(a)*", 15), "a" + strings.Repeat("+*?", 19), strings.Repeat("()", 30), strings.Repeat("((a+)+)+", 7),
	} {
		if r, e := regex.Parse(s); e == api.OK && r.Net().States > api.MaxStates {
			t.Error(cut(s), "has many states:", r.Net().States)
		}
	}
	var l []*regex.Regex
	for i := range api.MaxWords {
		l = append(l, regex.Literal(strings.Repeat(string(rune('a'+i)), 40)))
	}
	if n := regex.Or(l...).Net(); n.States > api.MaxStates {
		t.Error("many states:", n.States)
	}
}

// R4: what is handed in is neither changed nor kept, and what is answered is new.
func TestNothingIsShared(t *testing.T) {
	a, b, c := regex.Literal("a"), regex.Literal("b"), regex.Literal("c")
	room := []*regex.Regex{a, b, c, c}
	l := room[:2]
	or, then, many := regex.Or(l...), regex.Then(l...), regex.Many(a)
	if !slices.Equal(room, []*regex.Regex{a, b, c, c}) {
		t.Error("the list was changed")
	}
	one, alone := regex.Or(a), regex.Then(a)
	l[0], l[1] = c, c
	*a, *b = *c, *c
	if !or.Match("a") || !or.Match("b") || or.Match("c") || !then.Match("ab") || then.Match("cc") || !many.Match("aa") || many.Match("cc") || !one.Match("a") || !alone.Match("a") {
		t.Error("the list, or what is in it, was kept")
	}
	for _, r := range []*regex.Regex{or, then, many, one, parsed(t, "(a|b)*[a-c]")} {
		n, again := r.Net(), r.Net()
		want := slices.Clone(n.Edges)
		for i := range n.Edges {
			n.Edges[i] = api.Edge{From: 7, To: 7, Low: 7, High: 7}
		}
		_ = append(n.Edges[:0], make([]api.Edge, cap(n.Edges))...)
		if !slices.Equal(again.Edges, want) || !slices.Equal(r.Net().Edges, want) {
			t.Error("the edges of", r.Print(), "were kept")
		}
	}
}

// R5: the same each time, whatever was asked ahead.
func TestSameEachTime(t *testing.T) {
	for _, s := range []string{"", "a(b|c)*", "[^a-c]+|(a|b)?", "((a|b)+c)*|.b"} {
		r, again := parsed(t, s), parsed(t, s)
		before := r.Net()
		for _, u := range []string{"", "a", "ab", "abc", "\x7f"} {
			if m := r.Match(u); r.Match(u) != m || again.Match(u) != m {
				t.Error(cut(s), "and", cut(u))
			}
		}
		regex.Many(regex.Or(r, regex.Then(r, r))).Match("abc")
		for _, n := range []api.Net{r.Net(), again.Net()} {
			if n.States != before.States || n.Start != before.Start || n.End != before.End || !slices.Equal(n.Edges, before.Edges) {
				t.Error(cut(s), "has another net")
			}
		}
		if r.Print() != again.Print() || r.Print() != r.Print() {
			t.Error(cut(s), "is printed otherwise")
		}
	}
}

// The bound: parts 10000 levels deep in one another.
func TestDeep(t *testing.T) {
	many, row, plus := regex.Literal("a"), regex.Literal("a"), parsed(t, "a+")
	b, c := regex.Literal("b"), regex.Literal("c")
	for range 9990 {
		many = regex.Many(regex.Or(many, b))
		row = regex.Then(row, regex.Or(b, c))
		plus = regex.Many(plus)
	}
	long := strings.Repeat("b", 9990)
	for _, x := range []struct {
		r    *regex.Regex
		s    string
		want bool
	}{
		{many, "abba", true}, {many, "", true}, {many, "abca", false}, {plus, "aaa", true}, {plus, "", true}, {plus, "ab", false},
		{row, "a" + long, true}, {row, "a" + long[1:], false}, {row, "a" + long + "b", false}, {row, "a" + long[1:] + "c", true},
	} {
		if x.r.Match(x.s) != x.want {
			t.Error(cut(x.s), "is matched otherwise than", x.want)
		}
	}
	for _, r := range []*regex.Regex{many, row, plus} {
		if fault := sound(r.Net()); fault != "" {
			t.Error(fault)
		}
	}
}

// P9.2: an expression may stand many times in another, more often than could be written.
func TestShared(t *testing.T) {
	a := regex.Literal("a")
	for i, c := range []struct {
		r       *regex.Regex
		yes, no []string
	}{
		{a, nil, []string{"", "a", "aaaa", "b"}},
		{regex.Or(a, regex.Then()), []string{"", "a", "aaaaaaa"}, []string{"b", "aab", "a\n"}},
		{regex.Or(regex.Literal("ab"), regex.Literal("")), []string{"", "ab", "ababab"}, []string{"a", "aba", "abb"}},
		{parsed(t, "(ab+)?"), []string{"", "ab", "abbab"}, []string{"b", "aab", "a"}},
		{parsed(t, "(ab|b+)*"), []string{"", "ab", "bbab"}, []string{"a", "aab", "ba"}},
		{parsed(t, "[a-c]*"), []string{"", "abc"}, []string{"abd", "\x7f"}},
		{regex.Many(regex.Then(a, a)), []string{"", "aa", "aaaa"}, []string{"a", "aaa"}},
		{regex.Then(), []string{""}, []string{"a"}},
		{regex.Literal("\n"), nil, []string{"", "a", "\n"}},
	} {
		deep := 100
		if i < 2 {
			deep = 9990
		}
		r, either := doubled(c.r, deep), c.r
		for range deep {
			either = regex.Or(either, either)
		}
		plus, many := regex.Then(r, regex.Many(r)), regex.Many(regex.Or(r, regex.Literal("!")))
		for _, s := range c.yes {
			if !r.Match(s) || !plus.Match(s) || !many.Match(s) || !many.Match("!"+s+"!") || !regex.Then(r, regex.Literal("!"), r).Match(s+"!"+s) {
				t.Error("does not match", s)
			}
		}
		for _, s := range c.no {
			if r.Match(s) || plus.Match(s) || s != "" && many.Match(s) || many.Match("!"+s+"!") && s != "" || regex.Then(r, regex.Literal("!")).Match(s+"!") {
				t.Error("matches", s)
			}
		}
		for _, s := range append(c.yes, c.no...) {
			if either.Match(s) != c.r.Match(s) {
				t.Error("or of the same is another one at", s)
			}
		}
		if n := either.Net(); n.States > 100 {
			t.Error("or of the same has many states:", n.States)
		}
	}
	for _, r := range []*regex.Regex{regex.Then(), regex.Or(), regex.Literal(""), regex.Literal("\n"), parsed(t, "(())"), parsed(t, "[^ -~]")} {
		if n := doubled(r, 9990).Net(); n.States > 100 {
			t.Error(r.Print(), "one behind the other has many states:", n.States)
		}
	}
}

// The bound: long texts, and expressions of very many parts.
func TestLong(t *testing.T) {
	const n = 200000
	long := strings.Repeat("ab", n/2)
	var l []*regex.Regex
	for i := range n {
		l = append(l, regex.Literal(long[i:i+1]))
	}
	words := make([]*regex.Regex, n)
	for i := range words {
		words[i] = regex.Literal(fmt.Sprint(i))
	}
	huge := strings.Repeat(long, 10)
	many := regex.Many(regex.Or(l[0], l[1]))
	for _, c := range []struct {
		r    *regex.Regex
		s    string
		want bool
	}{
		{parsed(t, "(a|b)*"), long, true}, {parsed(t, "(ab)*"), long, true}, {parsed(t, "(ab)*"), long + "a", false}, {parsed(t, ".*.*b"), long, true}, {parsed(t, "(.*c|a|b)*"), long, true}, {parsed(t, "(a*b*)+c"), long, false}, {parsed(t, ".*c.*"), long, false},
		{regex.Literal(long), long, true}, {regex.Literal(long), long[1:], false}, {regex.Literal(huge), huge, true}, {regex.Literal(huge), huge[2:], false},
		{regex.Then(l...), long, true}, {regex.Then(l...), long[2:], false}, {regex.Or(words...), "199999", true}, {regex.Or(words...), "200000", false},
		{regex.Then(many, many, many), long, true}, {regex.Then(many, many, regex.Literal("c")), long, false}, {regex.Then(many, regex.Literal("c"+long)), long + "c" + long, true}, {regex.Then(l[0], regex.Literal(huge), l[1]), "a" + huge + "b", true}, {regex.Then(l[0], regex.Literal(huge), l[1]), "a" + huge + "a", false},
	} {
		if c.r.Match(c.s) != c.want {
			t.Error(cut(c.r.Print()), "and", cut(c.s), "not", c.want)
		}
	}
	for _, r := range []*regex.Regex{regex.Then(l...), regex.Or(words...), regex.Literal(long)} {
		if fault := sound(r.Net()); fault != "" {
			t.Error(fault)
		}
	}
}
