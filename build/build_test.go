package build_test

import (
	"fmt"
	"reflect"
	"runtime"
	"slices"
	"strings"
	"testing"

	"strainer/api"
	"strainer/build"
	"strainer/dom"
	"strainer/model"
	"strainer/token"
	"strainer/write"
)

// The calls have just these signatures.
var (
	_ func() *build.Builder           = build.New
	_ func(*build.Builder, api.Token) = (*build.Builder).Put
	_ func(*build.Builder) []string   = (*build.Builder).Open
	_ func(*build.Builder) []api.Node = (*build.Builder).Nodes
	_ func([]api.Token) []api.Node    = build.Tree
)

// begin is a beginning, with attributes, names and values by turns.
func begin(name string, l ...string) api.Token {
	t := api.Token{Kind: api.Begin, Name: name}
	for i := 0; i+1 < len(l); i += 2 {
		t.Attrs = append(t.Attrs, api.Attr{Name: l[i], Value: l[i+1]})
	}
	return t
}

// end is an end.
func end(name string) api.Token { return api.Token{Kind: api.End, Name: name} }

// chars is characters.
func chars(s string) api.Token { return api.Token{Kind: api.Chars, Text: s} }

// remark is a comment's token.
func remark(s string) api.Token { return api.Token{Kind: api.Remark, Text: s} }

// row is tokens.
func row(l ...api.Token) []api.Token { return l }

// times is tokens, so many times.
func times(n int, l ...api.Token) []api.Token {
	return slices.Repeat(l, n)
}

// text is a text.
func text(s string) api.Node { return api.Node{Kind: api.Text, Text: s} }

// note is a comment.
func note(s string) api.Node { return api.Node{Kind: api.Comment, Text: s} }

// el is an element with kids.
func el(name string, kids ...api.Node) api.Node {
	return api.Node{Kind: api.Element, Name: name, Kids: kids}
}

// with is an element with attributes, names and values by turns.
func with(name string, l ...string) api.Node {
	n := el(name)
	for i := 0; i+1 < len(l); i += 2 {
		n.Attrs = append(n.Attrs, api.Attr{Name: l[i], Value: l[i+1]})
	}
	return n
}

// list is nodes.
func list(l ...api.Node) []api.Node { return l }

// chain is elements of a name in one another, with those nodes in the last one.
func chain(name string, deep int, in ...api.Node) []api.Node {
	for range deep {
		in = list(el(name, in...))
	}
	return in
}

// show is tokens or nodes for a fault's report, which is to stay short.
func show(x any) string {
	s := fmt.Sprintf("%+q", fmt.Sprint(x))
	return s[:min(len(s), 300)]
}

// same tells whether nodes are alike in all fields, nil and empty lists being one.
func same(a, b []api.Node) bool {
	return slices.EqualFunc(a, b, func(x, y api.Node) bool {
		return x.Kind == y.Kind && x.Name == y.Name && x.Text == y.Text && slices.Equal(x.Attrs, y.Attrs) && same(x.Kids, y.Kids)
	})
}

// built is a builder of which tokens are built.
func built(l ...api.Token) *build.Builder {
	b := build.New()
	for _, t := range l {
		b.Put(t)
	}
	return b
}

// The chapter again, by other means: each open element is the last node of the one around it, so that nodes, and how many are open, say all.

// closings is each open element that something closes, and behind it what does.
var closings = [][]string{
	{"p", "blockquote", "div", "h1", "h2", "hr", "li", "ol", "p", "pre", "table", "ul"},
	{"li", "li"},
	{"dt", "dd", "dt"},
	{"dd", "dd", "dt"},
	{"option", "option"},
	{"td", "td", "tr"},
	{"tr", "tr"},
}

// shuts tells whether a beginning closes an open element.
func shuts(open, name string) bool {
	for _, row := range closings {
		if row[0] == open {
			return slices.Contains(row[1:], name)
		}
	}
	return false
}

// state is nodes, and how many of the last ones in one another are open.
type state struct {
	l    []api.Node
	open int
}

// names is the names of the open ones.
func (s state) names() []string {
	var out []string
	for l := s.l; len(out) < s.open; l = l[len(l)-1].Kids {
		out = append(out, l[len(l)-1].Name)
	}
	return out
}

// put is nodes with one more, so deep in the last ones: as a part of the last text there, if both are one.
func put(l []api.Node, deep int, n api.Node) []api.Node {
	l = slices.Clone(l)
	last := len(l) - 1
	switch {
	case deep > 0:
		l[last].Kids = put(l[last].Kids, deep-1, n)
	case n.Kind == api.Text && last >= 0 && l[last].Kind == api.Text:
		l[last].Text += n.Text
	default:
		l = append(l, n)
	}
	return l
}

// next is what a token makes of a state.
func next(s state, t api.Token) state {
	open := s.names()
	switch t.Kind {
	case api.Begin:
		for len(open) > 0 && shuts(open[len(open)-1], t.Name) {
			open = open[:len(open)-1]
		}
		s = state{put(s.l, len(open), api.Node{Kind: api.Element, Name: t.Name, Attrs: slices.Clone(t.Attrs)}), len(open)}
		if !slices.Contains([]string{"br", "hr", "img", "input", "wbr"}, t.Name) {
			s.open++
		}
	case api.End:
		for i := len(open) - 1; i >= 0; i-- {
			if open[i] == t.Name {
				return state{s.l, i}
			}
		}
	case api.Chars:
		if t.Text != "" {
			s.l = put(s.l, s.open, text(t.Text))
		}
	case api.Remark:
		s.l = put(s.l, s.open, note(t.Text))
	}
	return s
}

// want is what tokens should make.
func want(l []api.Token) state {
	var s state
	for _, t := range l {
		s = next(s, t)
	}
	return s
}

// check holds a builder of which tokens were built against the chapter.
func check(t *testing.T, l []api.Token) {
	t.Helper()
	b, s := built(l...), want(l)
	if got := b.Nodes(); !same(got, s.l) {
		t.Fatalf("Nodes of %s: %s, not %s", show(l), show(got), show(s.l))
	}
	if got := b.Open(); !slices.Equal(got, s.names()) {
		t.Fatalf("Open of %s: %q, not %q", show(l), got, s.names())
	}
	if got := build.Tree(l); !same(got, s.l) {
		t.Fatalf("Tree of %s: %s, not %s", show(l), show(got), show(s.l))
	}
}

// rows tells all lists of up to so many tokens out of some.
func rows(some []api.Token, most int, tell func([]api.Token)) {
	var on func(l []api.Token)
	on = func(l []api.Token) {
		tell(l)
		if len(l) == most {
			return
		}
		for _, t := range some {
			on(append(slices.Clip(l), t))
		}
	}
	on(nil)
}

// P7.1

// trial is tokens, the nodes that they make, and the names of those that are open then.
type trial struct {
	l    []api.Token
	want []api.Node
	open string
}

// beginnings is trials of what begins.
func beginnings() []trial {
	b := with("b", "x", "1", "y", "2")
	b.Kids = list(text("z"))
	return []trial{
		{row(begin("b")), list(el("b")), "b"},
		{row(begin("b"), begin("i"), begin("b")), chain("b", 1, el("i", el("b"))), "b i b"},
		{row(begin("b", "x", "1", "y", "2"), chars("z")), list(b), "b"},
		{row(begin("p"), chars("x"), begin("div")), list(el("p", text("x")), el("div")), "div"},
		{row(begin("p"), begin("p"), begin("p")), list(el("p"), el("p"), el("p")), "p"},
		{row(begin("div"), begin("p"), begin("div")), list(el("div", el("p"), el("div"))), "div div"},
		{row(begin("p"), begin("h3")), list(el("p", el("h3"))), "p h3"},
		// One that closes more than one.
		{row(begin("tr"), begin("td"), begin("tr")), list(el("tr", el("td")), el("tr")), "tr"},
		{row(begin("table"), begin("tr"), begin("td"), begin("td"), begin("tr"), chars("x")), list(el("table", el("tr", el("td"), el("td")), el("tr", text("x")))), "table tr"},
		{row(begin("ul"), begin("li"), begin("p"), chars("x"), begin("li")), list(el("ul", el("li", el("p", text("x"))), el("li"))), "ul li"},
		{row(begin("dl"), begin("dt"), begin("dd"), begin("dt")), list(el("dl", el("dt"), el("dd"), el("dt"))), "dl dt"},
		{row(begin("select"), begin("option"), chars("x"), begin("option")), list(el("select", el("option", text("x")), el("option"))), "select option"},
		// One that would close an open one which is not the innermost.
		{row(begin("p"), begin("b"), begin("div")), list(el("p", el("b", el("div")))), "p b div"},
		{row(begin("li"), begin("ul"), begin("li")), list(el("li", el("ul", el("li")))), "li ul li"},
		{row(begin("p"), begin("b"), begin("p"), begin("div")), list(el("p", el("b", el("p"), el("div")))), "p b div"},
		{row(begin("tr"), begin("td"), begin("b"), begin("tr")), list(el("tr", el("td", el("b", el("tr"))))), "tr td b tr"},
		{row(begin("td"), begin("p"), begin("tr")), list(el("td", el("p", el("tr")))), "td p tr"},
		// One whose innermost open element it closes, but not the one around that, nor one behind that.
		{row(begin("td"), begin("tr"), begin("td")), list(el("td"), el("tr", el("td"))), "tr td"},
		{row(begin("p"), begin("b"), begin("li"), begin("li")), list(el("p", el("b", el("li"), el("li")))), "p b li"},
		// Void elements are never open, but close what they close.
		{row(begin("br"), chars("x"), begin("hr"), begin("img"), begin("input"), begin("wbr"), begin("b")), list(el("br"), text("x"), el("hr"), el("img"), el("input"), el("wbr"), el("b")), "b"},
		{row(begin("p"), begin("br"), chars("x"), begin("hr"), chars("y")), list(el("p", el("br"), text("x")), el("hr"), text("y")), ""},
		{row(begin("p"), begin("b"), begin("hr"), chars("y")), list(el("p", el("b", el("hr"), text("y")))), "p b"},
		{row(begin("img", "src", "x"), remark("c")), list(with("img", "src", "x"), note("c")), ""},
		// Raw ones are open as others are.
		{row(begin("script"), begin("b"), chars("x"), begin("p"), begin("style")), list(el("script", el("b", text("x"), el("p", el("style"))))), "script b p style"},
	}
}

// ends is trials of what ends.
func ends() []trial {
	return []trial{
		{row(begin("b"), end("b")), list(el("b")), ""},
		{row(begin("b"), chars("x"), end("b"), chars("y")), list(el("b", text("x")), text("y")), ""},
		// Of one that is open within others, and with others in it.
		{row(begin("ul"), begin("li"), begin("b"), begin("i"), end("li"), chars("x")), list(el("ul", el("li", el("b", el("i"))), text("x"))), "ul"},
		{row(begin("a"), begin("b"), begin("i"), end("a"), chars("x")), list(el("a", el("b", el("i"))), text("x")), ""},
		{row(begin("a"), begin("b"), begin("i"), end("i"), chars("x")), list(el("a", el("b", el("i"), text("x")))), "a b"},
		// Of none that is open: none yet, one that is no more open, a void one, one of another name.
		{row(end("b")), nil, ""},
		{row(end("b"), begin("b")), list(el("b")), "b"},
		{row(begin("b"), end("b"), end("b"), chars("x")), list(el("b"), text("x")), ""},
		{row(begin("a"), begin("b"), end("a"), end("b"), begin("i")), list(el("a", el("b")), el("i")), "i"},
		{row(begin("i"), begin("a"), begin("b"), end("a"), end("b"), chars("x")), list(el("i", el("a", el("b")), text("x"))), "i"},
		{row(begin("b"), begin("br"), end("br"), chars("x")), list(el("b", el("br"), text("x"))), "b"},
		{row(begin("b"), end("i"), end("B"), end(""), end("b "), chars("x")), list(el("b", text("x"))), "b"},
		{row(begin("p"), begin("div"), end("p"), chars("x")), list(el("p"), el("div", text("x"))), "div"},
		// Of the innermost one of several of that name.
		{row(begin("b"), begin("b"), begin("b"), end("b"), chars("x")), list(el("b", el("b", el("b"), text("x")))), "b b"},
		{row(begin("b"), begin("i"), begin("b"), begin("i"), end("b"), chars("x")), list(el("b", el("i", el("b", el("i")), text("x")))), "b i"},
		{row(begin("b"), begin("i"), begin("b"), end("b"), end("b"), chars("x")), list(el("b", el("i", el("b"))), text("x")), ""},
		{row(begin("li"), begin("ul"), begin("li"), end("li"), end("li"), chars("x")), list(el("li", el("ul", el("li"))), text("x")), ""},
		// No end closes what a beginning would: tokens go by their own kind.
		{row(begin("p"), end("div"), chars("x")), list(el("p", text("x"))), "p"},
		{row(begin("tr"), begin("td"), end("tr"), begin("td")), list(el("tr", el("td")), el("td")), "td"},
	}
}

// characters is trials of characters and comments.
func characters() []trial {
	return []trial{
		{row(chars("x")), list(text("x")), ""},
		{row(chars("x"), chars("y"), chars("z")), list(text("xyz")), ""},
		{row(chars("")), nil, ""},
		{row(chars(""), chars("x"), chars(""), chars("y"), chars("")), list(text("xy")), ""},
		{row(begin("b"), chars(""), end("b"), chars("")), list(el("b")), ""},
		{row(remark("c"), chars("x"), chars("y")), list(note("c"), text("xy")), ""},
		{row(chars("x"), remark("c"), chars("y")), list(text("x"), note("c"), text("y")), ""},
		{row(chars("x"), remark(""), chars("y")), list(text("x"), note(""), text("y")), ""},
		{row(begin("b"), end("b"), chars("x"), chars("y")), list(el("b"), text("xy")), ""},
		{row(chars("x"), begin("b"), end("b"), chars("y")), list(text("x"), el("b"), text("y")), ""},
		{row(chars("x"), begin("br"), chars("y"), begin("br"), chars("z")), list(text("x"), el("br"), text("y"), el("br"), text("z")), ""},
		// Behind an end of none that is open the last node there is the same one.
		{row(chars("x"), end("b"), chars("y")), list(text("xy")), ""},
		{row(begin("b"), chars("x"), end("i"), chars("y"), end("br"), chars("z")), list(el("b", text("xyz"))), "b"},
		{row(chars("x"), api.Token{}, chars("y"), api.Token{Kind: 5, Text: "z"}, chars("z")), list(text("xyz")), ""},
		// Behind an end that ends something it is that element: no text in it, nor one ahead of it.
		{row(chars("x"), begin("b"), chars("y"), end("b"), chars("z")), list(text("x"), el("b", text("y")), text("z")), ""},
		{row(begin("b"), chars("x"), begin("i"), chars("y"), end("b"), chars("z")), list(el("b", text("x"), el("i", text("y"))), text("z")), ""},
		{row(begin("p"), chars("x"), begin("hr"), chars("y"), chars("z")), list(el("p", text("x")), el("hr"), text("yz")), ""},
		// Comments.
		{row(remark("c")), list(note("c")), ""},
		{row(remark(""), remark(""), remark("d")), list(note(""), note(""), note("d")), ""},
		{row(begin("b"), remark("c"), begin("i"), remark("d"), end("b"), remark("e")), list(el("b", note("c"), el("i", note("d"))), note("e")), ""},
		{row(begin("p"), remark("div"), chars("div"), end("p")), list(el("p", note("div"), text("div"))), ""},
	}
}

// oddities is trials of names, attributes and texts that may not be, and of tokens that have more than they should.
func oddities() []trial {
	full := func(kind int, name, text string) api.Token {
		return api.Token{Kind: kind, Name: name, Text: text, Attrs: []api.Attr{{Name: "x", Value: "1"}}}
	}
	return []trial{
		// What may not be goes there as it is.
		{row(begin("", "", "")), list(with("", "", "")), ""},
		{row(begin(""), begin("p"), begin(""), begin("div"), end(""), chars("x"), end(""), chars("y")), list(el("", el("p", el("", el("div")), text("x"))), text("y")), ""},
		{row(begin("B"), end("b"), begin("\xff"), end("\xff"), chars("x"), end("B")), list(el("B", el("\xff"), text("x"))), ""},
		{row(begin("P"), begin("DIV"), begin("BR"), chars("x")), list(el("P", el("DIV", el("BR", text("x"))))), "P DIV BR"},
		{row(begin("p"), begin("DIV"), begin(" p"), begin("p ")), list(el("p", el("DIV", el(" p", el("p "))))), "p DIV  p p "},
		{row(begin("p"), begin("div "), end("p"), begin("br/"), begin("a b>")), list(el("p", el("div ")), el("br/", el("a b>"))), "br/ a b>"},
		{row(begin("b", "X", "\xff", "x y", "\x00", "X", "\r"), end("b")), list(with("b", "X", "\xff", "x y", "\x00", "X", "\r")), ""},
		{row(chars("\xff"), chars("\x00\r"), chars("\xc3"), chars("\xa9"), remark("-->"), remark("\xff\r\x00")), list(text("\xff\x00\r\xc3\xa9"), note("-->"), note("\xff\r\x00")), ""},
		{row(begin("script"), chars("</script>"), chars("<b>"), end("style"), remark("x")), list(el("script", text("</script><b>"), note("x"))), "script"},
		{row(chars("<b>&lt;</b>"), begin("b"), chars("</b>")), list(text("<b>&lt;</b>"), el("b", text("</b>"))), "b"},
		// A token's other fields are not looked at.
		{row(full(api.Begin, "b", "text"), chars("z")), list(api.Node{Kind: api.Element, Name: "b", Attrs: []api.Attr{{Name: "x", Value: "1"}}, Kids: list(text("z"))}), "b"},
		{row(begin("b"), full(api.End, "b", "text"), chars("z")), list(el("b"), text("z")), ""},
		{row(begin("p"), full(api.Chars, "div", "z"), full(api.Chars, "p", "y"), full(api.Chars, "", "x")), list(el("p", text("zyx"))), "p"},
		{row(begin("p"), full(api.Chars, "br", ""), chars("z")), list(el("p", text("z"))), "p"},
		{row(begin("p"), full(api.Remark, "div", "z"), full(api.Remark, "p", "")), list(el("p", note("z"), note(""))), "p"},
		// Of tokens of other kinds nothing.
		{row(full(0, "b", "x"), full(5, "b", "x"), full(-1, "b", "x"), full(1<<40, "b", "x"), api.Token{}), nil, ""},
		{row(begin("p"), full(0, "p", "x"), full(5, "div", "x"), full(-1, "p", "x"), full(9, "", ""), chars("z")), list(el("p", text("z"))), "p"},
	}
}

// trials is all of them.
func trials() []trial {
	none := []trial{{nil, nil, ""}, {row(), nil, ""}}
	return slices.Concat(none, beginnings(), ends(), characters(), oddities())
}

func TestTree(t *testing.T) {
	for _, x := range trials() {
		if got := build.Tree(x.l); !same(got, x.want) {
			t.Errorf("Tree of %s: %s", show(x.l), show(got))
		}
		b := built(x.l...)
		if got := b.Nodes(); !same(got, x.want) {
			t.Errorf("Nodes of %s: %s", show(x.l), show(got))
		}
		if got := strings.Join(b.Open(), " "); got != x.open {
			t.Errorf("Open of %s: %q", show(x.l), got)
		}
		check(t, x.l)
	}
}

func TestNew(t *testing.T) {
	b := build.New()
	if len(b.Nodes()) != 0 || len(b.Open()) != 0 || len(build.Tree(nil)) != 0 || len(build.Tree([]api.Token{})) != 0 {
		t.Error("a new builder has nodes")
	}
	// Builders are apart.
	c := build.New()
	b.Put(begin("b"))
	c.Put(chars("x"))
	b.Put(end("b"))
	c.Put(begin("i"))
	c.Put(end("b"))
	if !same(b.Nodes(), list(el("b"))) || !same(c.Nodes(), list(text("x"), el("i"))) || len(b.Open()) != 0 || !slices.Equal(c.Open(), []string{"i"}) {
		t.Error(show(b.Nodes()), show(c.Nodes()))
	}
	if len(build.New().Nodes()) != 0 || len(build.New().Open()) != 0 {
		t.Error("a new builder has another one's nodes")
	}
}

func TestOpen(t *testing.T) {
	b := build.New()
	for _, x := range []struct {
		t    api.Token
		open string
	}{
		{chars("x"), ""}, {begin("div"), "div"}, {begin("ul"), "div ul"}, {begin("li"), "div ul li"}, {begin("p"), "div ul li p"}, {chars("x"), "div ul li p"}, {remark("x"), "div ul li p"}, {begin("br"), "div ul li p"},
		{end("br"), "div ul li p"}, {begin("li"), "div ul li"}, {begin("ul"), "div ul li ul"}, {begin("li"), "div ul li ul li"}, {end("ul"), "div ul li"}, {end("ul"), "div"}, {end("ul"), "div"}, {begin("div"), "div div"},
		{api.Token{Name: "div"}, "div div"}, {end("div"), "div"}, {begin("p"), "div p"}, {begin("hr"), "div"}, {end("p"), "div"}, {end("div"), ""}, {end("div"), ""}, {begin("p"), "p"},
	} {
		b.Put(x.t)
		if got := b.Open(); !slices.Equal(got, strings.Fields(x.open)) {
			t.Errorf("open behind %s: %q", show(x.t), got)
		}
	}
}

func TestPairsOfNames(t *testing.T) {
	names := []string{"", "b", "a", "h3", "br", "img", "input", "wbr", "script", "style", "th", "dl", "select", "body", "P", "LI", "p ", "#text"}
	for _, l := range closings {
		names = append(names, l...)
	}
	slices.Sort(names)
	names = slices.Compact(names)
	for _, x := range names {
		for _, y := range names {
			check(t, row(begin(x), chars("1"), begin(y), chars("2")))
			check(t, row(begin("td"), begin(x), begin(y), chars("1"), end(x), chars("2"), end("td"), chars("3")))
			check(t, row(begin("p"), begin(x), begin("i"), begin(y), chars("1"), end(y), chars("2"), end(x), chars("3")))
		}
	}
}

// sets is tokens that get into one another's way.
func sets() [][]api.Token {
	return [][]api.Token{
		row(begin("p"), begin("b"), begin("div", "x", "1"), begin("br"), end("p"), end("b"), chars("x"), remark("c")),
		row(begin("tr"), begin("td"), begin("b"), end("tr"), end("td"), end("br"), chars("x"), chars("")),
		row(begin("li"), begin("ul"), begin("p"), begin("hr"), end("li"), end("ul"), chars("x"), api.Token{Kind: 7, Name: "li", Text: "y"}),
	}
}

func TestAllShortRows(t *testing.T) {
	told := 0
	for _, set := range sets() {
		rows(set, 5, func(l []api.Token) {
			check(t, l)
			told++
		})
	}
	if told < 3*8*8*8*8*8 {
		t.Error(told)
	}
}

// long is a long row of tokens out of some, the same one each time.
func long(some []api.Token, n int, seed uint32) []api.Token {
	var out []api.Token
	for range n {
		seed = seed*1664525 + 1013904223
		out = append(out, some[int(seed>>16)%len(some)])
	}
	return out
}

func TestLongRows(t *testing.T) {
	all := slices.Concat(sets()...)
	for _, l := range closings {
		for _, s := range l {
			all = append(all, begin(s), end(s))
		}
	}
	for i := range 60 {
		check(t, long(all, 30*i, uint32(i)))
	}
}

func TestExamples(t *testing.T) {
	b := built(begin("p"), chars("x"), begin("div"))
	if !same(b.Nodes(), list(el("p", text("x")), el("div"))) || !slices.Equal(b.Open(), []string{"div"}) {
		t.Error(show(b.Nodes()), b.Open())
	}
	if got := build.Tree(token.Tokens("<p>a<div>b")); !same(got, list(el("p", text("a")), el("div", text("b")))) {
		t.Error(show(got))
	}
}

// What was told is of then.

func TestNodesAreAsTheyAreThen(t *testing.T) {
	l := long(slices.Concat(sets()...), 200, 1)
	b := build.New()
	var told [][]api.Node
	var opened [][]string
	for _, x := range l {
		told, opened = append(told, b.Nodes()), append(opened, b.Open())
		b.Put(x)
	}
	for i := range l {
		s := want(l[:i])
		if !same(told[i], s.l) {
			t.Fatalf("what was told behind %d tokens is another one now: %s", i, show(told[i]))
		}
		if !slices.Equal(opened[i], s.names()) {
			t.Fatalf("what was open behind %d tokens is another one now: %q", i, opened[i])
		}
	}
}

func TestOpenElementsAreTold(t *testing.T) {
	b := built(begin("a", "x", "1"), chars("x"), begin("b"), chars("y"))
	first := b.Nodes()
	b.Put(chars("z"))
	b.Put(begin("i"))
	b.Put(end("a"))
	b.Put(chars("w"))
	n := with("a", "x", "1")
	n.Kids = list(text("x"), el("b", text("y")))
	if !same(first, list(n)) {
		t.Error(show(first))
	}
	n.Kids = list(text("x"), el("b", text("yz"), el("i")))
	if got := b.Nodes(); !same(got, list(n, text("w"))) {
		t.Error(show(got))
	}
}

// scribble writes over all that nodes hold, their spare room too.
func scribble(l []api.Node) {
	l = l[:cap(l)]
	for i := range l {
		scribble(l[i].Kids)
		a := l[i].Attrs[:cap(l[i].Attrs)]
		for k := range a {
			a[k] = api.Attr{Name: "scribbled", Value: "scribbled"}
		}
		l[i] = api.Node{Kind: 77, Name: "scribbled"}
	}
}

func TestWhatIsToldIsNewMemory(t *testing.T) {
	l := append(row(begin("b", "x", "1", "y", "2", "z", "3"), begin("i", "x", "1")), long(slices.Concat(sets()...), 200, 2)...)
	b := build.New()
	for i, x := range l {
		b.Put(x)
		s := want(l[:i+1])
		twin := b.Nodes()
		scribble(b.Nodes())
		names := b.Open()
		for k := range names[:cap(names)] {
			names[:cap(names)][k] = "p"
		}
		if got := b.Nodes(); !same(got, s.l) || !same(twin, s.l) {
			t.Fatalf("behind %d tokens what was told reaches into the builder: %s", i+1, show(got))
		}
		if got := b.Open(); !slices.Equal(got, s.names()) {
			t.Fatalf("behind %d tokens what was told to be open reaches into the builder: %q", i+1, got)
		}
	}
	// Nor does one part of an answer reach into another one.
	want := build.Tree(l)
	for i := range want {
		got := build.Tree(l)
		scribble(got[i : i+1 : i+1])
		if !same(got[:i], want[:i]) || !same(got[i+1:], want[i+1:]) {
			t.Fatalf("a list is told twice, at %d", i)
		}
	}
}

// R4

// spare is tokens with spare room behind each of their lists, which holds what is to be left alone.
func spare(l []api.Token) []api.Token {
	out := make([]api.Token, 0, len(l)+2)
	for _, t := range l {
		t.Attrs = append(append(make([]api.Attr, 0, len(t.Attrs)+2), t.Attrs...), api.Attr{Name: "spare"}, api.Attr{Value: "spare"})[:len(t.Attrs)]
		out = append(out, t)
	}
	return append(out, begin("spare"), chars("spare"))[:len(l)]
}

// seen is all that tokens hold, their spare room too.
func seen(l []api.Token) []api.Token {
	var out []api.Token
	for _, t := range l[:cap(l)] {
		t.Attrs = slices.Clone(t.Attrs[:cap(t.Attrs)])
		out = append(out, t)
	}
	return out
}

// subject is tokens of all kinds, with attributes.
func subject() []api.Token {
	t := api.Token{Kind: api.Chars, Text: "x", Name: "p", Attrs: []api.Attr{{Name: "x", Value: "1"}}}
	e := t
	e.Kind = api.End
	o := t
	o.Kind = 8
	return spare(append(row(begin("p", "x", "1", "y", "2"), t, begin("p", "z", "3"), begin("img", "src", "x"), e, o, begin("b"), t), long(slices.Concat(sets()...), 50, 3)...))
}

func TestNothingIsChanged(t *testing.T) {
	l := subject()
	kept := seen(l)
	scribble(build.Tree(l))
	b := build.New()
	for _, x := range l {
		b.Put(x)
		scribble(b.Nodes())
	}
	if !reflect.DeepEqual(seen(l), kept) {
		t.Error("what was handed in has changed")
	}
}

func TestNothingIsKept(t *testing.T) {
	s := want(subject())
	l := subject()
	got, b := build.Tree(l), build.New()
	for i, x := range l {
		b.Put(x)
		a := x.Attrs[:cap(x.Attrs)]
		for k := range a {
			a[k] = api.Attr{Name: "scribbled"}
		}
		l[i] = begin("scribbled")
	}
	if !same(got, s.l) {
		t.Error("Tree keeps what it was handed")
	}
	if !same(b.Nodes(), s.l) {
		t.Error("a builder keeps what it was handed")
	}
}

// R5

func TestTheSameEachTime(t *testing.T) {
	l := long(slices.Concat(sets()...), 300, 4)
	first := build.Tree(l)
	for range 50 {
		if !reflect.DeepEqual(build.Tree(l), first) {
			t.Fatal("another tree of the same tokens")
		}
	}
}

// Deep, and many.

func TestDeep(t *testing.T) {
	const deep = 10000
	l := append(times(deep, begin("b")), chars("x"))
	b := built(l...)
	if got := b.Nodes(); !same(got, chain("b", deep, text("x"))) || len(b.Open()) != deep {
		t.Error("elements deep in one another")
	}
	for range deep {
		b.Put(end("b"))
	}
	b.Put(chars("y"))
	if got := b.Nodes(); !same(got, append(chain("b", deep, text("x")), text("y"))) || len(b.Open()) != 0 {
		t.Error("elements deep in one another, closed one by one")
	}
	// One end, or one beginning, that closes all of them.
	got := build.Tree(append(row(begin("p")), append(times(deep-1, begin("b")), end("p"), chars("y"))...))
	if !same(got, list(el("p", chain("b", deep-1)...), text("y"))) {
		t.Error("elements deep in one another, closed by one end")
	}
	got = build.Tree(append(times(deep, begin("p"), begin("b")), end("p")))
	if got = got[0].Kids; len(got) != 1 || len(got[0].Kids) != 1 || got[0].Kids[0].Name != "p" {
		t.Error(show(got))
	}
}

func TestManyTokens(t *testing.T) {
	const many = 200000
	got := build.Tree(append(times(many, chars("xy")), times(many, begin("p"), chars("z"), chars(""), chars("z"))...))
	if len(got) != 1+many || got[0].Text != strings.Repeat("xy", many) || !same(got[many:], list(el("p", text("zz")))) {
		t.Error("many texts, and elements side by side")
	}
	// Ends of none that is open, behind many that are.
	b := built(append(times(10000, begin("b")), times(many, end("i"), chars("x"))...)...)
	if len(b.Open()) != 10000 || !same(b.Nodes(), chain("b", 10000, text(strings.Repeat("x", many)))) {
		t.Error("many ends of none")
	}
	// Names that come and go.
	b = build.New()
	for i := range many {
		b.Put(begin(fmt.Sprint("n", i)))
		b.Put(end(fmt.Sprint("n", i)))
	}
	if got := b.Nodes(); len(got) != many || len(b.Open()) != 0 || !same(got[many-1:], list(el(fmt.Sprint("n", many-1)))) {
		t.Error("many names")
	}
}

func TestLongTextsAreNotCopiedForEachToken(t *testing.T) {
	l := times(20000, chars("xyz"))
	var from, to runtime.MemStats
	runtime.ReadMemStats(&from)
	build.Tree(l)
	runtime.ReadMemStats(&to)
	if n := to.TotalAlloc - from.TotalAlloc; n > 50<<20 {
		t.Errorf("%d bytes are taken for a text of %d", n, 3*len(l))
	}
}

// P7.2

// sound asks that no text is empty or stands beside another one, that void elements have no kids, and that no kid closes its parent.
func sound(parent string, l []api.Node) bool {
	for i, n := range l {
		switch {
		case n.Kind == api.Text && (n.Text == "" || i > 0 && l[i-1].Kind == api.Text):
			return false
		case n.Kind == api.Element && shuts(parent, n.Name):
			return false
		case dom.Void(n.Name) && len(n.Kids) > 0, !sound(n.Name, n.Kids):
			return false
		}
	}
	return true
}

func TestTreesAreSound(t *testing.T) {
	for _, x := range trials() {
		if got := build.Tree(x.l); !sound("", got) {
			t.Errorf("not sound: %s, of %s", show(got), show(x.l))
		}
	}
	for _, set := range sets() {
		rows(set, 4, func(l []api.Token) {
			if got := build.Tree(l); !sound("", got) {
				t.Fatalf("not sound: %s, of %s", show(got), show(l))
			}
		})
	}
	for i := range 20 {
		l := long(slices.Concat(sets()...), 30*i, uint32(i))
		b := build.New()
		for _, x := range l {
			b.Put(x)
			if !sound("", b.Nodes()) {
				t.Fatalf("not sound: %s", show(b.Nodes()))
			}
		}
	}
}

func TestTreesOfTextsAreStable(t *testing.T) {
	for _, s := range []string{
		"", "x", "<p>a<div>b", "<ul><li>1<li>2</ul>3", "<table><tr><td>1<td>2<tr><td>3</table>4", "<br>x</br><hr/>", "<script>a<b></script>c", "<style></style >x", "<!--c--><!---->", "<b><i></b>x</i>",
		"<dl><dt>1<dd>2<dt>3</dl>", "<select><option>1<option>2", "<p><b><p>", "a&lt;<b x=1 X=2 y>&amp;</b>", "<img src=x>y</img>", "</p></b>", "<p>\n<hr>x",
	} {
		l := build.Tree(token.Tokens(s))
		if !model.Stable(l) {
			t.Errorf("not stable: %s, of %q", show(l), s)
		}
		// What is stable is built of its own text as itself.
		if got := build.Tree(token.Tokens(write.Text(l))); !same(got, l) {
			t.Errorf("%q is built as %s, not as %s", write.Text(l), show(got), show(l))
		}
	}
}
