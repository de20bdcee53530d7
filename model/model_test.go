package model_test

import (
	"fmt"
	"reflect"
	"regexp"
	"slices"
	"strings"
	"testing"

	"strainer/api"
	"strainer/dom"
	"strainer/model"
)

// The calls have just these signatures.
var (
	_ func(string, string) bool   = model.Closes
	_ func(string, api.Node) bool = model.Fits
	_ func([]api.Node) bool       = model.Stable
	_ func([]api.Node) []api.Node = model.Steady
	_ func() []string             = model.Closed
)

// text is a text.
func text(s string) api.Node { return api.Node{Kind: api.Text, Text: s} }

// note is a comment.
func note(s string) api.Node { return api.Node{Kind: api.Comment, Text: s} }

// el is an element with kids.
func el(name string, kids ...api.Node) api.Node {
	return api.Node{Kind: api.Element, Name: name, Kids: kids}
}

// with is an element with attributes, names and values by turns.
func with(name string, l ...string) api.Node {
	n := el(name)
	for i := 0; i+1 < len(l); i += 2 {
		n.Attrs = append(n.Attrs, api.Attr{Name: l[i], Value: l[i+1]})
	}
	return n
}

// list is nodes.
func list(l ...api.Node) []api.Node { return l }

// chain is elements of a name in one another, with those nodes in the last one.
func chain(name string, deep int, in ...api.Node) []api.Node {
	for range deep {
		in = list(el(name, in...))
	}
	return in
}

// show is nodes for a fault's report, which is to stay short.
func show(l []api.Node) string {
	s := fmt.Sprintf("%+q", fmt.Sprint(l))
	return s[:min(len(s), 300)]
}

// The chapter again, by other means.

// closings is each open element that something closes, rising, and behind it what does.
var closings = [][]string{
	{"dd", "dd", "dt"},
	{"dt", "dd", "dt"},
	{"li", "li"},
	{"option", "option"},
	{"p", "blockquote", "div", "h1", "h2", "hr", "li", "ol", "p", "pre", "table", "ul"},
	{"td", "td", "tr"},
	{"tr", "tr"},
}

// names is all that the chapter lists, and some that it does not.
func names() []string {
	out := []string{"", "b", "a", "h3", "h", "h1x", "span", "br", "img", "input", "wbr", "script", "style", "th", "dl", "select", "body", "P", "DIV", "LI", " p", "p ", "*", "#text", "paragraph"}
	for _, row := range closings {
		out = append(out, row...)
	}
	slices.Sort(out)
	return slices.Compact(out)
}

// shut is what Closes should tell.
func shut(open, begin string) bool {
	for _, row := range closings {
		if row[0] == open {
			return slices.Contains(row[1:], begin)
		}
	}
	return false
}

var (
	script = regexp.MustCompile("</[sS][cC][rR][iI][pP][tT][\t\n\f />]")
	style  = regexp.MustCompile("</[sS][tT][yY][lL][eE][\t\n\f />]")
)

// settled is what Fits should tell.
func settled(parent string, n api.Node) bool {
	switch parent {
	case "br", "hr", "img", "input", "wbr":
		return false
	case "script":
		return n.Kind == api.Text && script.FindStringIndex(n.Text + "</script>")[0] == len(n.Text)
	case "style":
		return n.Kind == api.Text && style.FindStringIndex(n.Text + "</style>")[0] == len(n.Text)
	}
	return !(n.Kind == api.Element && shut(parent, n.Name))
}

// firm is what Stable should tell of nodes that may be.
func firm(l []api.Node) bool {
	for _, n := range l {
		if n.Kind == api.Comment && strings.Contains(n.Text, "-->") {
			return false
		}
		if (n.Name == "script" || n.Name == "style") && len(n.Kids) > 1 || !firm(n.Kids) {
			return false
		}
		for _, k := range n.Kids {
			if !settled(n.Name, k) {
				return false
			}
		}
	}
	return true
}

// steadied is what Steady should tell, step by step as the chapter has them.
func steadied(parent string, l []api.Node) []api.Node {
	var out []api.Node
	for _, n := range l {
		n.Kids = steadied(n.Name, n.Kids)
		out = append(out, n)
	}
	out = slices.DeleteFunc(out, func(n api.Node) bool { return parent != "" && !settled(parent, n) })
	out = slices.DeleteFunc(out, func(n api.Node) bool { return n.Kind == api.Comment && strings.Contains(n.Text, "-->") })
	out = slices.DeleteFunc(out, func(n api.Node) bool { return n.Kind == api.Text && n.Text == "" })
	for i := 1; i < len(out); {
		if out[i-1].Kind == api.Text && out[i].Kind == api.Text {
			out[i-1].Text += out[i].Text
			out = slices.Delete(out, i, i+1)
			continue
		}
		i++
	}
	if parent == "script" || parent == "style" {
		out = slices.DeleteFunc(out, func(n api.Node) bool { return !settled(parent, n) })
	}
	return out
}

// forests tells all lists of up to so many nodes in all that have these shapes, of which elements have a kid list of the same kind.
func forests(shapes []api.Node, most int, tell func([]api.Node)) {
	tell(nil)
	if most == 0 {
		return
	}
	for _, n := range shapes {
		deep := 0
		if n.Kind == api.Element {
			deep = most - 1
		}
		forests(shapes, deep, func(kids []api.Node) {
			n := n
			n.Kids = slices.Clone(kids)
			forests(shapes, most-1-count(kids), func(rest []api.Node) {
				tell(append(list(n), rest...))
			})
		})
	}
}

// count is how many nodes there are.
func count(l []api.Node) int {
	sum := len(l)
	for _, n := range l {
		sum += count(n.Kids)
	}
	return sum
}

// P6.1

func TestCloses(t *testing.T) {
	told := 0
	for _, open := range names() {
		for _, begin := range names() {
			want := shut(open, begin)
			if got := model.Closes(open, begin); got != want {
				t.Errorf("Closes of %q, %q: %v", open, begin, got)
			}
			if want {
				told++
			}
		}
	}
	if told != 2+2+1+1+11+2+1 {
		t.Error(told)
	}
}

func TestClosesByEachPair(t *testing.T) {
	for _, x := range []struct{ open, begins, not string }{
		{"p", "blockquote div h1 h2 hr li ol p pre table ul", "a b dd dt h3 option td tr br script P"},
		{"li", "li", "ul ol p div dd"},
		{"dt", "dd dt", "dl p li"},
		{"dd", "dd dt", "dl p li"},
		{"option", "option", "select p li"},
		{"td", "td tr", "th table p"},
		{"tr", "tr", "td th table"},
		{"div", "", "div p li"},
		{"h1", "", "h1 h2 p"},
		{"hr", "", "hr p"},
		{"table", "", "table tr td"},
		{"ul", "", "ul li"},
		{"ol", "", "ol li"},
		{"blockquote", "", "blockquote p"},
		{"pre", "", "pre p"},
		{"b", "", "b p"},
		{"script", "", "script p"},
		{"br", "", "br p"},
		{"P", "", "p P div"},
	} {
		for _, s := range strings.Fields(x.begins) {
			if !model.Closes(x.open, s) {
				t.Errorf("%s does not close %s", s, x.open)
			}
		}
		for _, s := range append(strings.Fields(x.not), "") {
			if model.Closes(x.open, s) {
				t.Errorf("%s closes %s", s, x.open)
			}
		}
	}
}

func TestClosed(t *testing.T) {
	want := []string{"dd", "dt", "li", "option", "p", "td", "tr"}
	for range 50 {
		l := model.Closed()
		if !slices.Equal(l, want) {
			t.Fatal(l)
		}
		// What was told is its own memory: writing over it, and over its spare room, changes no later answer.
		l = l[:cap(l)]
		for i := range l {
			l[i] = "scribbled"
		}
	}
	for _, s := range names() {
		some := slices.ContainsFunc(names(), func(begin string) bool { return model.Closes(s, begin) })
		if some != slices.Contains(want, s) {
			t.Errorf("closed: %s", s)
		}
	}
}

// oddities is nodes of which nothing but their Kind, their Name and a text's Text should be asked.
func oddities() []api.Node {
	named := text("x")
	named.Name = "div"
	remark := note("x")
	remark.Name = "div"
	full := with("b", "B", "1", "B", "\xff")
	full.Text, full.Kids = "</script>", list(text(""), text(""), api.Node{})
	wrong := full
	wrong.Name = "div"
	return list(named, remark, full, wrong, api.Node{}, api.Node{Name: "div"}, api.Node{Kind: 4, Name: "p", Text: "</script>"}, api.Node{Kind: -1, Name: "li"},
		text(""), text("x"), text("\xff"), text("a\rb\x00"), text("-->"), note(""), note("x"), note("-->"), note("a-->b"), note("--"), note("</script>"), note("\xff"))
}

func TestFits(t *testing.T) {
	tries := oddities()
	for _, s := range names() {
		tries = append(tries, el(s), el(s, el("div"), text("</script>")))
	}
	for _, s := range rawTexts("script") {
		tries = append(tries, text(s))
	}
	for _, parent := range append(names(), "SCRIPT", "Style", "BR", "scripts", "styl") {
		for _, n := range tries {
			if got, want := model.Fits(parent, n), settled(parent, n); got != want {
				t.Errorf("Fits of %q, %s: %v", parent, show(list(n)), got)
			}
		}
	}
}

func TestFitsInEachSort(t *testing.T) {
	for i, x := range []struct {
		parent string
		n      api.Node
		want   bool
	}{
		// In a void element nothing may stand.
		{"br", text("x"), false}, {"br", text(""), false}, {"hr", note("x"), false}, {"img", el("b"), false}, {"input", api.Node{}, false}, {"wbr", el("br"), false},
		// In a raw one nothing but a text.
		{"script", text("x"), true}, {"script", text(""), true}, {"script", note("x"), false}, {"script", el("b"), false}, {"script", el("script"), false}, {"script", api.Node{}, false}, {"script", api.Node{Kind: 4, Text: "x"}, false},
		{"style", text("x"), true}, {"style", note(""), false}, {"style", el("p"), false},
		// In any other all but an element that closes it.
		{"p", text("x"), true}, {"p", text(""), true}, {"p", text("</p>"), true}, {"p", el("b"), true}, {"p", el("div"), false}, {"p", el("hr"), false}, {"p", el("p"), false}, {"p", el("script"), true}, {"p", el("br"), true},
		{"div", el("p"), true}, {"div", el("div"), true}, {"li", el("li"), false}, {"li", el("ul"), true}, {"li", el("p"), true}, {"tr", el("td"), true}, {"td", el("tr"), false}, {"dd", el("dt"), false}, {"option", el("option"), false},
		// Whatever a comment's Text is.
		{"p", note("-->"), true}, {"b", note("a-->b"), true}, {"b", note(""), true},
		// Names are asked as they are.
		{"P", el("div"), true}, {"p", el("DIV"), true}, {"BR", text("x"), true}, {"SCRIPT", el("b"), true}, {"SCRIPT", text("</script>"), true}, {"", el("p"), true}, {"", text("</script>"), true}, {"", el(""), true},
		// A node that only has an element's name closes nothing.
		{"p", api.Node{Kind: api.Text, Text: "x", Name: "div"}, true}, {"p", api.Node{Kind: api.Comment, Name: "div"}, true}, {"p", api.Node{Name: "div"}, true},
	} {
		if got := model.Fits(x.parent, x.n); got != x.want {
			t.Errorf("Fits of %d: %v", i, got)
		}
	}
}

// rawTexts is texts of that raw element in which it ends, and such in which it does not.
func rawTexts(name string) []string {
	return append(endingTexts(name), goingTexts(name)...)
}

// endingTexts is texts in which that raw element ends: at the beginning, in the midst, at the end.
func endingTexts(name string) []string {
	end, great := "</"+name, "</"+strings.ToUpper(name)
	return []string{
		end + ">", end + ">x", "x" + end + ">", "x" + end + ">y", "x\n" + end + " ", end + "\t", end + "\n", end + "\f", end + " ", end + "/", end + "/>",
		great + ">", "x" + great + ">y", "</" + strings.ToUpper(name[:1]) + name[1:] + ">", "</" + name[:3] + strings.ToUpper(name[3:]) + " a=1>",
		end + "s>" + end + ">", end + end + ">", "<" + end + ">", "<!--" + end + ">-->", "\"" + end + ">\"", "<" + name + ">" + end + ">", "\u00e9" + end + ">\u00e9", "\xff" + end + ">",
		strings.Repeat("<", 1000) + end + ">", strings.Repeat(end, 1000) + ">", end + ">" + end,
	}
}

// goingTexts is texts in which that raw element does not end.
func goingTexts(name string) []string {
	end := "</" + name
	return []string{
		"", "x", "a<b", "<", "</", "<//", end, "x" + end, "x" + strings.ToUpper(end), end[:len(end)-1], end[:len(end)-1] + ">", end[:4], end[:3],
		end + "s>", end + "x", end + "-", end + "0 ", "x" + end + "s></b>", "</" + strings.ToUpper(name) + "S>", end + end, "<" + name + ">", "< /" + name + ">", "</ " + name + ">", "<" + end[2:] + "/>",
		end + "\v", end + "\u00a0", end + "<", end + "\"", end + "\xff>", end + "=", "</b>", "<!--", "-->", "&lt;/" + name + "&gt;", "\u00e9", "\xff", "<\xff/" + name + ">",
		// A letter that only looks like one of the name is none, nor is one that folds to it elsewhere.
		"</\u017f" + name[1:] + ">", "</" + name[:1] + "\u0441" + name[2:] + ">",
		strings.Repeat("</", 1000), strings.Repeat(end, 1000),
	}
}

func TestRawElementsEnd(t *testing.T) {
	for _, x := range []struct{ name, other string }{{"script", "style"}, {"style", "script"}} {
		for _, s := range endingTexts(x.name) {
			if model.Fits(x.name, text(s)) {
				t.Errorf("%+q fits into %s", s, x.name)
			}
			if !model.Fits(x.other, text(s)) || !model.Fits("b", text(s)) || !model.Fits("p", text(s)) {
				t.Errorf("%+q ends what is no %s", s, x.name)
			}
		}
		for _, s := range goingTexts(x.name) {
			if !model.Fits(x.name, text(s)) {
				t.Errorf("%+q does not fit into %s", s, x.name)
			}
		}
	}
}

func TestRawElementsEndByEachByte(t *testing.T) {
	for c := range 256 {
		s := "</script" + string([]byte{byte(c)})
		want := strings.IndexByte("\t\n\f />", byte(c)) < 0
		if got := model.Fits("script", text(s)); got != want {
			t.Errorf("Fits of %q: %v", s, got)
		}
		if got := model.Fits("script", text(s+"x")); got != want {
			t.Errorf("Fits of %q: %v", s+"x", got)
		}
	}
}

// P6.2

// steadies is nodes, and what is steady of them: no nodes, if they are stable themselves.
type steadies struct{ l, want []api.Node }

// firmNodes is nodes that are stable.
func firmNodes() [][]api.Node {
	out := [][]api.Node{
		nil,
		{},
		{text("x")},
		{text("</script>")},
		{note("")},
		{note("x"), note("y")},
		{text("x"), note("y"), text("z")},
		{el("b")},
		{el("br"), el("hr"), with("img", "src", "x"), el("input"), el("wbr")},
		{with("a", "href", "-->", "x", "</script>")},
		// What closes an element may stand beside it, and in what stands in it.
		{el("p"), el("p"), el("div")},
		{el("p", el("b", el("p", el("b", el("div", el("p"))))))},
		{el("li"), el("li")},
		{el("ul", el("li", text("x"), el("ul", el("li", text("y")), el("li")))), text("z")},
		{el("li", el("ul", el("li")))},
		{el("dl", el("dt", el("b", el("dd"))), el("dd"))},
		{el("table", el("tr", el("td", el("table", el("tr", el("td", text("x"))))), el("td")))},
		{el("select", el("option", text("x")), el("option"))},
		{el("div", el("div", el("p", text("x")), el("p")))},
		{el("h1", el("h1", el("p")))},
		{el("hr"), el("p", el("br"))},
		// Comments that have only a part of their end.
		{note("--"), note("->"), note(">"), note("-"), note("- ->"), note("--x>"), note("-- >"), note("--\n>"), note("<!--"), note("--&gt;"), note("-\u2010>")},
		{el("p", note("a--"), note("->b"))},
		{el("b", text("-->"))},
		{el("script", text("-->"))},
		// Raw elements.
		{el("script")},
		{el("style", text("x")), el("script", text("y"))},
		{el("p", el("script", text("a<b>&amp;")))},
		{el("script"), text("</script>")},
		chain("b", 9999, text("x")),
	}
	for _, name := range []string{"script", "style"} {
		for _, s := range goingTexts(name) {
			if s != "" && dom.May(list(text(s))) == api.OK {
				out = append(out, list(el(name, text(s))), list(el("div", el(name, text(s)), text("x"))))
			}
		}
	}
	return out
}

// weakNodes is nodes that may be, or would if texts of theirs were merged, but are not stable.
func weakNodes() []steadies {
	a := with("a", "href", "x", "id", "-->")
	a.Kids = list(text("x"), note("-->"), text("y"))
	b := with("a", "href", "x", "id", "-->")
	b.Kids = list(text("xy"))
	out := []steadies{
		// Void elements.
		{list(el("br", text("x"))), list(el("br"))},
		{list(el("hr", note("x"))), list(el("hr"))},
		{list(text("x"), el("img", el("b", text("y"))), text("z")), list(text("x"), el("img"), text("z"))},
		{list(el("p", el("input", el("input")), text("x"))), list(el("p", el("input"), text("x")))},
		{list(el("wbr", text("x"), el("wbr"))), list(el("wbr"))},
		// Raw elements.
		{list(el("script", el("b"))), list(el("script"))},
		{list(el("script", note("x"))), list(el("script"))},
		{list(el("style", text("x"), note("y"))), list(el("style", text("x")))},
		{list(el("style", note("y"), text("x"), el("b", text("z")))), list(el("style", text("x")))},
		{list(el("script", text("x"), text("y"))), list(el("script", text("xy")))},
		{list(el("script", text("x"), el("b"), text("y"))), list(el("script", text("xy")))},
		{list(el("script", text("x"), el("b"), text(""), note(""), text("y"))), list(el("script", text("xy")))},
		{list(el("script", text(""))), list(el("script"))},
		{list(el("script", text("x"), text("</script>"), text("y"))), list(el("script", text("xy")))},
		{list(el("b", el("script", text("</script>")), text("x"))), list(el("b", el("script"), text("x")))},
		// Texts that end it only once they are merged.
		{list(el("script", text("</script"), text(">"))), list(el("script"))},
		{list(el("script", text("</scr"), el("b"), text("ipt>"))), list(el("script"))},
		{list(el("script", text("<"), note("x"), text("/"), text(""), text("SCRIPT"), el("b"), text("\n"))), list(el("script"))},
		{list(el("style", text("x</style"), text("/y"))), list(el("style"))},
		{list(el("style", text("x</style"), text("s>"))), list(el("style", text("x</styles>")))},
		{list(el("style", text("x</style"), note(""), text("-"), text(">"))), list(el("style", text("x</style->")))},
		{list(el("script", text("</script"), text("</script>"), text("x"))), list(el("script", text("</scriptx")))},
		{list(el("script", text("</script"), text("</script>"), text(" x"))), list(el("script"))},
		{list(el("script", text("</sty"), text("le>"))), list(el("script", text("</style>")))},
		// Comments.
		{list(note("-->")), nil},
		{list(note("a-->")), nil},
		{list(note("-->b")), nil},
		{list(note("a--->b"), note("c")), list(note("c"))},
		{list(text("x"), note("-->"), text("y")), list(text("xy"))},
		{list(text("x"), note("-->"), note("ok"), text("y")), list(text("x"), note("ok"), text("y"))},
		{list(el("b", note("a"), note("-->"), note("b"))), list(el("b", note("a"), note("b")))},
		{list(el("p", el("b", el("i", note("-->"))))), list(el("p", el("b", el("i"))))},
		{list(el("br", note("-->")), el("script", note("-->"))), list(el("br"), el("script"))},
		{list(a, a), list(b, b)},
		// Kids that close their parents, and what these stood between.
		{list(el("p", el("div"))), list(el("p"))},
		{list(el("p", el("p", el("p")))), list(el("p"))},
		{list(el("p", text("x"), el("div", text("z")), text("y"))), list(el("p", text("xy")))},
		{list(el("p", text("x"), el("div"), el("ul"), note("-->"), text(""), text("y"), el("b"))), list(el("p", text("xy"), el("b")))},
		{list(el("ul", el("li", text("x"), el("li"), el("ul", el("li", el("li")))))), list(el("ul", el("li", text("x"), el("ul", el("li")))))},
		{list(el("div", el("p", el("b", el("p", el("table")))))), list(el("div", el("p", el("b", el("p")))))},
		{list(el("td", el("td"), el("tr"), el("th"))), list(el("td", el("th")))},
		{list(el("tr", el("tr"), el("td"))), list(el("tr", el("td")))},
		{list(el("dt", el("dd"), el("dt"), el("dl"))), list(el("dt", el("dl")))},
		{list(el("dd", el("dd"), el("dt"), el("dl"))), list(el("dd", el("dl")))},
		{list(el("option", el("option"), text("x"))), list(el("option", text("x")))},
		// Texts that are empty, or stand side by side: what may not be, but is merged.
		{list(text("")), nil},
		{list(text(""), text(""), text("")), nil},
		{list(text("x"), text("y")), list(text("xy"))},
		{list(text("y"), text(""), text("x"), el("b"), text(""), text("z")), list(text("yx"), el("b"), text("z"))},
		{list(el("b", el("i", text("x"), text(""), text("y")), text(""))), list(el("b", el("i", text("xy"))))},
		{list(el("b", text("x")), text(""), text("y")), list(el("b", text("x")), text("y"))},
		{chain("p", 10000), list(el("p"))},
		{chain("b", 9999, el("p", el("p")), text(""), note("-->")), chain("b", 9999, el("p"))},
	}
	for _, name := range []string{"script", "style"} {
		for _, s := range endingTexts(name) {
			if dom.May(list(text(s))) == api.OK {
				out = append(out, steadies{list(el(name, text(s))), list(el(name))}, steadies{list(text("x"), el("b", el(name, text(s), text("x")))), list(text("x"), el("b", el(name, text("x"))))})
			}
		}
	}
	return out
}

func TestStable(t *testing.T) {
	for i, l := range firmNodes() {
		if !model.Stable(l) {
			t.Errorf("%d is not stable: %s", i, show(l))
		}
	}
	for i, x := range weakNodes() {
		if model.Stable(x.l) {
			t.Errorf("%d is stable: %s", i, show(x.l))
		}
	}
}

func TestSteady(t *testing.T) {
	for i, l := range firmNodes() {
		if got := model.Steady(l); !dom.Same(got, l) {
			t.Errorf("%d is not steady: %s", i, show(got))
		}
	}
	for i, x := range weakNodes() {
		if got := model.Steady(x.l); !dom.Same(got, x.want) {
			t.Errorf("Steady of %d: %s", i, show(got))
		}
	}
}

func TestStableOfNodesThatMayNotBe(t *testing.T) {
	many := with("b", "x", "1", "y", "2", "x", "3")
	l := []api.Node{
		{}, {Kind: 4}, {Kind: -1, Name: "b"}, {Kind: api.Element, Name: "b", Text: "x"},
		{Kind: api.Text, Text: "x", Name: "b"}, {Kind: api.Text, Text: "x", Attrs: []api.Attr{{}}}, {Kind: api.Text, Text: "x", Kids: list(text("y"))},
		{Kind: api.Comment, Name: "b"}, {Kind: api.Comment, Attrs: []api.Attr{{Name: "x"}}}, {Kind: api.Comment, Kids: list(note(""))},
		el(""), el("B"), el("P"), el("1"), el("b "), el("#text"), with("b", "", "x"), with("b", "X", "y"), with("b", "x y", ""), many,
		with("b", "x", "\xff"), with("b", "x", "a\rb"), with("b", "x", "\x00"), text("\xff"), text("a\rb"), text("\x00"), note("\xff"), note("\r"), text(""),
	}
	for i, n := range l {
		for k, l := range [][]api.Node{{n}, {n, el("b")}, {el("b"), n}, {el("b", n)}, {el("b"), el("p", el("b", note("x"), n)), el("b")}, {el("script", n)}, chain("b", 5000, n)} {
			if model.Stable(l) {
				t.Errorf("stable: %d, %d", i, k)
			}
		}
	}
	for i, l := range [][]api.Node{{text("x"), text("y")}, {el("b", text("x"), text("y"))}, {el("b", el("i", note(""), text("x"), text("y")))}, {el("script", text("x"), text("y"))}} {
		if model.Stable(l) {
			t.Errorf("stable: %d", i)
		}
	}
}

// shapes is three sets of nodes that get into one another's way.
func shapes() [][]api.Node {
	return [][]api.Node{
		{el("p"), el("b"), el("br"), el("script"), text("x"), text(""), note("x"), note("-->")},
		{el("script"), el("b"), text("</scr"), text("ipt"), text(">"), note("-->")},
		{el("p"), el("li"), el("td"), el("tr"), el("div"), with("hr", "x", "y"), text("x")},
	}
}

func TestAllSmallForests(t *testing.T) {
	stable, not := 0, 0
	for _, set := range shapes() {
		forests(set, 4, func(l []api.Node) {
			want := dom.May(l) == api.OK && firm(l)
			if got := model.Stable(l); got != want {
				t.Fatalf("Stable of %s: %v", show(l), got)
			}
			got := model.Steady(l)
			if !dom.Same(got, steadied("", l)) {
				t.Fatalf("Steady of %s: %s", show(l), show(got))
			}
			if want {
				stable++
			} else {
				not++
			}
		})
	}
	if stable < 5000 || not < 5000 {
		t.Error(stable, not)
	}
}

func TestRowsOfRawTexts(t *testing.T) {
	set := []api.Node{text("<"), text("/"), text("style"), text("STYLE"), text(" "), text(">"), text("x")}
	forests(set, 5, func(row []api.Node) {
		l := list(el("style", row...))
		if got := model.Steady(l); !dom.Same(got, steadied("", l)) || !model.Stable(got) {
			t.Fatalf("Steady of %s: %s", show(l), show(got))
		}
	})
}

func TestPairsOfParentsAndKids(t *testing.T) {
	for _, open := range names() {
		for _, begin := range names() {
			l := list(text("x"), el(open, text("v"), el(begin), text("w")))
			if dom.May(l) != api.OK {
				continue
			}
			if got, want := model.Stable(l), firm(l); got != want {
				t.Errorf("Stable of %s in %s: %v", begin, open, got)
			}
			if got := model.Steady(l); !dom.Same(got, steadied("", l)) {
				t.Errorf("Steady of %s in %s: %s", begin, open, show(got))
			}
		}
	}
}

func TestManyNodes(t *testing.T) {
	var in, want []api.Node
	for range 100000 {
		in = append(in, el("p", el("div")), text("x"), note("-->"), text("y"))
		want = append(want, el("p"), text("xy"))
	}
	l := chain("b", 9000, in...)
	got := model.Steady(l)
	if !dom.Same(got, chain("b", 9000, want...)) || model.Stable(l) || !model.Stable(got) {
		t.Error("many nodes, deep down")
	}
	row := make([]api.Node, 200000)
	for i := range row {
		row[i] = text("</script</style")
	}
	l = list(el("script", row...), el("style", row...))
	got = model.Steady(l)
	if s := strings.Repeat("</script</style", len(row)); !dom.Same(got, list(el("script", text(s)), el("style", text(s)))) || !model.Stable(got) {
		t.Error("many texts")
	}
}

func TestNodesDeepDownAreMadeOnce(t *testing.T) {
	const deep = 3000
	l := chain("b", deep, text("x"))
	if n := testing.AllocsPerRun(1, func() { model.Steady(l) }); n > 50*deep {
		t.Errorf("%v lists are made of %d nodes", n, deep)
	}
}

// P6.3

// hold asks that what is steady of nodes is stable, and stays as it is, and whether it is the nodes themselves.
func hold(t *testing.T, l []api.Node) {
	got := model.Steady(l)
	if !model.Stable(got) {
		t.Fatalf("what is steady is not stable: %s", show(l))
	}
	if !dom.Same(model.Steady(got), got) {
		t.Fatalf("what is steady does not stay: %s", show(l))
	}
	if model.Stable(l) != dom.Same(got, l) {
		t.Fatalf("stable, or steady as it is, but not both: %s", show(l))
	}
}

func TestWhatIsSteadyIsStable(t *testing.T) {
	for _, l := range firmNodes() {
		hold(t, l)
	}
	for _, x := range weakNodes() {
		hold(t, x.l)
		hold(t, x.want)
	}
	for _, set := range shapes() {
		forests(set, 4, func(l []api.Node) { hold(t, l) })
	}
}

// R4

// spare is nodes with spare room behind each of their lists, which holds nodes and attributes that are to be left alone.
func spare(l []api.Node) []api.Node {
	out := make([]api.Node, 0, len(l)+2)
	for _, n := range l {
		n.Attrs = append(append(make([]api.Attr, 0, len(n.Attrs)+2), n.Attrs...), api.Attr{Name: "spare"}, api.Attr{Value: "spare"})[:len(n.Attrs)]
		n.Kids = spare(n.Kids)
		out = append(out, n)
	}
	return append(out, text("spare"), el("spare"))[:len(l)]
}

// seen is all that nodes hold, their spare room too.
func seen(l []api.Node) []api.Node {
	var out []api.Node
	for _, n := range l[:cap(l)] {
		n.Attrs = slices.Clone(n.Attrs[:cap(n.Attrs)])
		n.Kids = seen(n.Kids)
		out = append(out, n)
	}
	return out
}

// scribble writes over all that nodes hold, their spare room too.
func scribble(l []api.Node) {
	l = l[:cap(l)]
	for i := range l {
		scribble(l[i].Kids)
		a := l[i].Attrs[:cap(l[i].Attrs)]
		for k := range a {
			a[k] = api.Attr{Name: "scribbled", Value: "scribbled"}
		}
		l[i] = api.Node{Kind: 77, Name: "scribbled"}
	}
}

// subject is nodes, with spare room, of which much is left out, and much stays.
func subject() []api.Node {
	a := with("a", "x", "1", "y", "2")
	a.Kids = list(text("p"), note("-->"), text("q"), el("b", el("script", text("r"), el("i"), text("s"))), with("img", "src", "z"), note("ok"))
	p := with("p", "z", "3")
	p.Kids = list(a, el("div", text("t")), text("u"), text(""), text("v"))
	return spare(list(text(""), text("w"), text("x"), p, note("-->"), el("br", a), a, text("y"), note("ok")))
}

func TestNothingIsChanged(t *testing.T) {
	good := spare(firmNodes()[13])
	for i, l := range [][]api.Node{subject(), good} {
		kept := seen(l)
		if model.Stable(l) != (i == 1) {
			t.Error(i)
		}
		model.Steady(l)
		for _, parent := range []string{"p", "br", "script", "b"} {
			for _, n := range l {
				model.Fits(parent, n)
			}
		}
		if !reflect.DeepEqual(seen(l), kept) {
			t.Errorf("what was handed in has changed: %d", i)
		}
	}
}

func TestAnswersAreNewMemory(t *testing.T) {
	want := steadied("", subject())
	// What is handed in does not reach into the answer.
	l := subject()
	got := model.Steady(l)
	scribble(l)
	if !dom.Same(got, want) {
		t.Error("Steady keeps what it was handed")
	}
	// Nor does the answer reach into what was handed in, or into another answer.
	l = subject()
	kept, got, twin := seen(l), model.Steady(l), model.Steady(l)
	scribble(got)
	if !reflect.DeepEqual(seen(l), kept) || !dom.Same(twin, want) {
		t.Error("Steady tells memory that is not new")
	}
	// Nor one part of it into another one.
	for i := range want {
		got = model.Steady(subject())
		scribble(got[i : i+1 : i+1])
		if !dom.Same(got[:i], want[:i]) || !dom.Same(got[i+1:], want[i+1:]) {
			t.Errorf("Steady tells one list twice, at %d", i)
		}
	}
	// Nodes that stay as they are are told anew, too.
	for _, x := range [][]api.Node{want, {with("b", "x", "1")}, {el("script", text("x"))}} {
		l, same := spare(x), dom.Clone(x)
		kept := seen(l)
		got := model.Steady(l)
		if !dom.Same(got, same) {
			t.Error(show(got))
		}
		scribble(got)
		if !reflect.DeepEqual(seen(l), kept) {
			t.Error("Steady tells what it was handed")
		}
	}
}
