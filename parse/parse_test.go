package parse_test

import (
	"fmt"
	"reflect"
	"slices"
	"strings"
	"testing"

	"strainer/api"
	"strainer/build"
	"strainer/dom"
	"strainer/model"
	"strainer/parse"
	"strainer/token"
	"strainer/utf"
	"strainer/write"
)

// The calls have just these signatures.
var (
	_ func([]byte) []api.Node     = parse.Bytes
	_ func(string) []api.Node     = parse.Text
	_ func([]api.Node) []api.Node = parse.Again
	_ func([]api.Node) bool       = parse.Keeps
	_ func([]byte) (string, int)  = parse.Settle
	_ func([]api.Node) int        = parse.Deep
)

// text is a text.
func text(s string) api.Node { return api.Node{Kind: api.Text, Text: s} }

// note is a comment.
func note(s string) api.Node { return api.Node{Kind: api.Comment, Text: s} }

// el is an element with kids.
func el(name string, kids ...api.Node) api.Node {
	return api.Node{Kind: api.Element, Name: name, Kids: kids}
}

// with is an element with attributes, names and values by turns.
func with(name string, l ...string) api.Node {
	n := el(name)
	for i := 0; i+1 < len(l); i += 2 {
		n.Attrs = append(n.Attrs, api.Attr{Name: l[i], Value: l[i+1]})
	}
	return n
}

// list is nodes.
func list(l ...api.Node) []api.Node { return l }

// chain is elements of a name in one another, with those nodes in the last one.
func chain(name string, deep int, in ...api.Node) []api.Node {
	for range deep {
		in = list(el(name, in...))
	}
	return in
}

// show is anything for a fault's report, which is to stay short.
func show(x any) string {
	s := fmt.Sprintf("%+q", fmt.Sprint(x))
	return s[:min(len(s), 300)]
}

// same tells whether nodes are alike in all fields, nil and empty lists being one.
func same(a, b []api.Node) bool {
	return slices.EqualFunc(a, b, func(x, y api.Node) bool {
		return x.Kind == y.Kind && x.Name == y.Name && x.Text == y.Text && slices.Equal(x.Attrs, y.Attrs) && same(x.Kids, y.Kids)
	})
}

// each tells all rows of up to so many of some parts.
func each(parts []string, most int, tell func(string)) {
	tell("")
	if most == 0 {
		return
	}
	for _, p := range parts {
		each(parts, most-1, func(s string) { tell(p + s) })
	}
}

// long is a long row of some parts, the same one each time.
func long(parts []string, n int, seed uint32) string {
	var out strings.Builder
	for range n {
		seed = seed*1664525 + 1013904223
		out.WriteString(parts[int(seed>>16)%len(parts)])
	}
	return out.String()
}

// sets is parts of bytes that get into one another's way.
func sets() [][]string {
	return [][]string{
		{"<p>", "<b>", "<div a=1>", "<hr>", "</p>", "</B>", "x", "<!--c-->", "&lt;", "\r\n", "\xff"},
		{"<tr>", "<td>", "<li>", "<ul>", "</tr>", "</ul", ">", "<br>", "</br>", "\x00", "&amp", ";"},
		{"<script>", "<style x='", "</script>", "</SCRIPT", "</style>", "<!--", "-->", "'>", "<b>", "&#13;", " "},
		{"<", "/", "a", ">", "!", "-", "=", "\"", "'", "&", "\r", "\xc3", "\xa9"},
	}
}

// trials tells all short rows of each set's parts, and some long ones of all of them.
func trials(most int, tell func(string)) {
	for _, set := range sets() {
		each(set, most, tell)
	}
	all := slices.Concat(sets()...)
	for i := range 100 {
		tell(long(all, 5*i, uint32(i)))
	}
}

// forests tells all lists of up to so many nodes in all that have these shapes.
func forests(shapes []api.Node, most int, tell func([]api.Node)) {
	tell(nil)
	if most == 0 {
		return
	}
	for _, n := range shapes {
		deep := 0
		if n.Kind == api.Element {
			deep = most - 1
		}
		forests(shapes, deep, func(kids []api.Node) {
			n := n
			n.Kids = slices.Clone(kids)
			forests(shapes, most-1-count(kids), func(rest []api.Node) {
				tell(append(list(n), rest...))
			})
		})
	}
}

// count is how many nodes there are.
func count(l []api.Node) int {
	sum := len(l)
	for _, n := range l {
		sum += count(n.Kids)
	}
	return sum
}

// small tells all lists of a few nodes, many of which may not be, or are not stable.
func small(tell func([]api.Node)) {
	forests(list(el("p"), el("b"), el("div"), el("hr"), text("x"), note("y")), 4, tell)
	forests(list(el("tr"), el("td"), el("li"), el("dd"), text("<")), 4, tell)
	forests(list(el("script"), el("style"), el("b"), text("x"), text("</script>"), text("</style"), note("-->")), 4, tell)
	forests(list(el("br"), el("option"), with("i", "x", "\"<&"), el("table"), text("&lt;"), note("--"), note(">")), 4, tell)
	forests(list(el("B"), with("b", "x", "\r"), el("script"), text(""), text("\xff"), api.Node{}), 3, tell)
}

// P8.1

// example is bytes, and the nodes that they are parsed as.
type example struct {
	s    string
	want []api.Node
}

// ordinary is examples of right bytes.
func ordinary() []example {
	return []example{
		{"", nil},
		{"x", list(text("x"))},
		{" \n\t", list(text(" \n\t"))},
		{"<p>a<div>b", list(el("p", text("a")), el("div", text("b")))},
		{"<A b=1 C>", list(with("a", "b", "1", "c", ""))},
		{"<b><i>x</b>y</i>z", list(el("b", el("i", text("x"))), text("yz"))},
		{"<ul><li>1<li>2</ul>3", list(el("ul", el("li", text("1")), el("li", text("2"))), text("3"))},
		{"<table><tr><td>1<td>2<tr><td>3</table>4", list(el("table", el("tr", el("td", text("1")), el("td", text("2"))), el("tr", el("td", text("3")))), text("4"))},
		{"</p>x<br></br>y", list(text("x"), el("br"), text("y"))},
		{"<p>x<hr/>y</p>", list(el("p", text("x")), el("hr"), text("y"))},
		{"<img src='\"&amp;'>1 < 2", list(with("img", "src", "\"&"), text("1 < 2"))},
		{"<script>a</b>&lt;</script>c", list(el("script", text("a</b>&lt;")), text("c"))},
		{"<script>x</script", list(el("script", text("x</script")))},
		{"<script></script x", list(el("script"))},
		{"<STYLE><p></Style ><p>", list(el("style", text("<p>")), el("p"))},
		{"<!x-->y", list(note("x--"), text("y"))},
		{"<!--x-->y<!---->z<!-->w", list(note("x"), text("y"), note(""), text("z"), note(">w"))},
		{"x</>y", list(text("xy"))},
		{"x</b>y<b", list(text("xy"))},
		{"a&lt;&no;&#65;&#x20ac;", list(text("a<&no;A\u20ac"))},
		{"&lt;b>", list(text("<b>"))},
		{"&#13;&#0;", list(text("\ufffd\ufffd"))},
		{"<b x=&#13; Y=&lt;&quot; x=2>", list(with("b", "x", "\ufffd", "y", "<\""))},
	}
}

// wrong is examples of bytes that are not right.
func wrong() []example {
	return []example{
		{"a\r\n\xff", list(text("a\n\ufffd"))},
		{"\x00", list(text("\ufffd"))},
		{"\r", list(text("\n"))},
		{"\r\r\n\n\r", list(text("\n\n\n\n"))},
		{"\xc3", list(text("\ufffd"))},
		{"\xc3\xa9\xa9", list(text("\u00e9\ufffd"))},
		{"\xed\xa0\x80\xf4\x90\x80\x80\xc0\x80", list(text(strings.Repeat("\ufffd", 9)))},
		{"\xe2\x82<b>", list(text("\ufffd\ufffd"), el("b"))},
		{"<\xffb>", list(text("<\ufffdb>"))},
		{"<\x00b>", list(text("<\ufffdb>"))},
		{"<b\x00>x</b\x00>y", list(func() api.Node { n := with("b", "\ufffd", ""); n.Kids = list(text("x")); return n }(), text("y"))},
		{"<B\rID=1\r\nid=2>x</b\r>", list(func() api.Node { n := with("b", "id", "1"); n.Kids = list(text("x")); return n }())},
		{"<br a=\r1\r\n b='\r\n\r\xfe\x00' \xff=\xff>", list(with("br", "a", "1", "b", "\n\n\ufffd\ufffd", "\ufffd", "\ufffd"))},
		{"<br \xff=1 \xfe=2>", list(with("br", "\ufffd", "1"))},
		{"<!--\r\x00\xc3-->", list(note("\n\ufffd\ufffd"))},
		{"<!\r\n>", list(note("\n"))},
		{"</\xff>", list(note("\ufffd"))},
		{"<script>\r\n\xff\x00</script\r>\r", list(el("script", text("\n\ufffd\ufffd")), text("\n"))},
		{"<script>\r</script\x00></script>", list(el("script", text("\n</script\ufffd>")))},
		{"&l\x00t;&#1\r3;", list(text("&l\ufffdt;&#1\n3;"))},
		{"\xef\xbb\xbfx", list(text("\ufeffx"))},
	}
}

func TestBytes(t *testing.T) {
	for _, x := range slices.Concat(ordinary(), wrong()) {
		if got := parse.Bytes([]byte(x.s)); !same(got, x.want) {
			t.Errorf("Bytes of %+q: %s, not %s", x.s, show(got), show(x.want))
		}
	}
	if len(parse.Bytes(nil)) != 0 || len(parse.Bytes([]byte{})) != 0 {
		t.Error("no bytes have nodes")
	}
}

func TestText(t *testing.T) {
	for _, x := range ordinary() {
		if !utf.Is(x.s) {
			t.Errorf("%+q is not right", x.s)
		}
		if got := parse.Text(x.s); !same(got, x.want) {
			t.Errorf("Text of %+q: %s, not %s", x.s, show(got), show(x.want))
		}
	}
	for _, x := range wrong() {
		if got := parse.Text(utf.Right([]byte(x.s))); !same(got, x.want) {
			t.Errorf("Text of %+q, made right: %s, not %s", x.s, show(got), show(x.want))
		}
	}
}

func TestTheTreeOfTheTokens(t *testing.T) {
	trials(4, func(b string) {
		s := utf.Right([]byte(b))
		want := build.Tree(token.Tokens(s))
		if got := parse.Text(s); !same(got, want) {
			t.Fatalf("Text of %+q: %s, not %s", s, show(got), show(want))
		}
		if got := parse.Bytes([]byte(b)); !same(got, want) {
			t.Fatalf("Bytes of %+q: %s, not %s", b, show(got), show(want))
		}
	})
}

// kept is nodes that are stable.
func kept() [][]api.Node {
	n := with("a", "href", "x&y", "title", "\"'<>&amp;", "<", "", "\"", "'", "\u00e9", "\n\ufffd")
	n.Kids = list(text("1 < 2 &amp; \"3\""), el("br"), note("c"))
	return [][]api.Node{
		nil,
		{},
		list(text("x")),
		list(text("<b>&lt;</b>-->\n\ufffd\u20ac")),
		list(note("")),
		list(note("-"), note("--"), note(">"), note("->"), note("<!--"), note("<b>&lt;"), note("--!>"), note("-- >")),
		list(el("b")),
		list(el("br")),
		list(n),
		list(el("p"), el("p"), el("div", el("p", el("b", el("div", el("p"))))), text("x"), el("hr")),
		list(el("li", el("ul", el("li", text("1")), el("li", text("2"))))),
		list(el("table", el("tr", el("td", el("table", el("tr"))), el("td")))),
		list(el("p", el("h3"), el("td"), el("br"), el("script", text("<div>")))),
		list(el("script"), el("script", text("a<b>&lt;&</scripts></style></script")), el("style", text("</ style><!-- -->"))),
		list(with("script", "x", "</script>"), text("</script>")),
		list(el("x-1-"), el("x", el("x", el("x")))),
	}
}

// other is nodes that may be, but are not stable, and what they are again.
func other() [][2][]api.Node {
	return [][2][]api.Node{
		// An element that closes its parent.
		{list(el("p", el("div"))), list(el("p"), el("div"))},
		{list(el("p", text("a"), el("p", text("b")), text("c"))), list(el("p", text("a")), el("p", text("b")), text("c"))},
		{list(el("p", el("hr"))), list(el("p"), el("hr"))},
		{list(el("li", el("li", el("li")))), list(el("li"), el("li"), el("li"))},
		{list(el("tr", el("td", el("tr", text("x"))))), list(el("tr", el("td")), el("tr", text("x")))},
		{list(el("dl", el("dt", el("dd")), text("x"))), list(el("dl", el("dt"), el("dd"), text("x")))},
		{list(el("b", el("p", el("b", el("p", el("ul")))))), list(el("b", el("p", el("b", el("p"), el("ul")))))},
		{list(text("x"), el("i"), el("option", el("option")), text("y")), list(text("x"), el("i"), el("option"), el("option"), text("y"))},
		// A void element with kids.
		{list(el("br", text("x"))), list(el("br"))},
		{list(text("x"), el("img", el("b"), note("c")), text("y")), list(text("x"), el("img"), text("y"))},
		// A raw one with other kids, or one that ends in its text.
		{list(el("script", el("b", text("<")))), list(el("script", text("<b>&lt;</b>")))},
		{list(el("script", note("x"))), list(el("script", text("<!--x-->")))},
		{list(el("style", text("x"), el("br"), text("&"))), list(el("style", text("x<br>&")))},
		{list(el("script", el("style", text("</script>")))), list(el("script", text("<style>")))},
		{list(el("script", text("</script>"))), list(el("script"))},
		{list(el("script", text("a</SCRIPT/>b<i>"))), list(el("script", text("a")), text("b"), el("i"))},
		{list(el("b", el("style", text("</STYLE x")), text("y"))), list(el("b", el("style"), text("y")))},
		// A comment that ends in its text.
		{list(note("-->")), list(note(""), text("-->"))},
		{list(note("a-->b"), text("c")), list(note("a"), text("b-->c"))},
		{list(note("x--><p>"), el("div")), list(note("x"), el("p", text("-->")), el("div"))},
	}
}

// barred is nodes that may not be, though what they would be written as is parsed as some.
func barred() [][]api.Node {
	full := func(kind int) api.Node {
		return api.Node{Kind: kind, Name: "b", Text: "x", Attrs: []api.Attr{{Name: "x"}}, Kids: list(text("x"))}
	}
	named, tagged, filled := text("x"), text("x"), note("x")
	named.Name, tagged.Attrs, filled.Kids = "b", []api.Attr{{Name: "x"}}, list(el("b"))
	told := el("b")
	told.Text = "x"
	out := [][]api.Node{
		list(api.Node{}), list(full(0)), list(full(4)), list(full(-1)), list(full(api.Text)), list(named), list(tagged), list(filled), list(told),
		list(text("")), list(text("x"), text("y")), list(text("\xff")), list(text("a\rb")), list(note("\x00")), list(note("\xc3")),
		list(el("")), list(el("B")), list(el("b c")), list(el("1")), list(el("\u00e9")), list(el("b>x</b"), text("y")),
		list(with("b", "", "")), list(with("b", "X", "1")), list(with("b", "x", "1", "x", "1")), list(with("b", "x y", "1")), list(with("b", "x", "\r")), list(with("b", "\xff", "1")),
	}
	for _, l := range slices.Clone(out) {
		out = append(out, append(list(note("x"), el("b")), l...), append(slices.Clone(l), note("x"), el("b")), list(el("i"), el("b", note("x"), el("i", l...))), list(el("br", l...)), list(el("script", l...)))
	}
	return out
}

func TestAgain(t *testing.T) {
	for _, l := range kept() {
		if got := parse.Again(l); !same(got, l) {
			t.Errorf("Again of %s: %s", show(l), show(got))
		}
	}
	for _, x := range other() {
		if got := parse.Again(x[0]); !same(got, x[1]) {
			t.Errorf("Again of %s: %s, not %s", show(x[0]), show(got), show(x[1]))
		}
	}
	for _, l := range barred() {
		if got := parse.Again(l); len(got) != 0 {
			t.Errorf("Again of %s, which may not be: %s", show(l), show(got))
		}
	}
}

func TestKeeps(t *testing.T) {
	for _, l := range kept() {
		if !parse.Keeps(l) {
			t.Errorf("Keeps of %s: false", show(l))
		}
	}
	for _, x := range other() {
		if dom.May(x[0]) != api.OK || parse.Keeps(x[0]) {
			t.Errorf("Keeps of %s: true", show(x[0]))
		}
		if !parse.Keeps(x[1]) {
			t.Errorf("Keeps of %s: false", show(x[1]))
		}
	}
	for _, l := range barred() {
		if dom.May(l) == api.OK || parse.Keeps(l) {
			t.Errorf("Keeps of %s, which may not be: true", show(l))
		}
	}
	// Nil and empty lists are one.
	n := api.Node{Kind: api.Element, Name: "b", Attrs: []api.Attr{}, Kids: []api.Node{}}
	if !parse.Keeps(list(n, n)) {
		t.Error("empty lists are not as none")
	}
}

func TestAgainOfMany(t *testing.T) {
	small(func(l []api.Node) {
		var want []api.Node
		if dom.May(l) == api.OK {
			want = build.Tree(token.Tokens(write.Text(l)))
		}
		if got := parse.Again(l); !same(got, want) {
			t.Fatalf("Again of %s: %s, not %s", show(l), show(got), show(want))
		}
	})
}

// P8.2

func TestSettle(t *testing.T) {
	for s, want := range map[string]string{
		"": "", "x": "x", "<p>a<div>b": "<p>a</p><div>b</div>", "<A b=1 C>": "<a b=\"1\" c=\"\"></a>",
		"a\r\n<B ID=1 id=2>x</b>\x00": "a\n<b id=\"1\">x</b>\ufffd", "\xff": "\ufffd", "\r": "\n", "<\xff": "&lt;\ufffd",
		"<b><i>x</b>y</i>z": "<b><i>x</i></b>yz", "</p>x<br></br>": "x<br>", "<img src=x/>": "<img src=\"x/\">",
		"<script>a</b>&lt;</script>c": "<script>a</b>&lt;</script>c", "<script>x</script": "<script>x</script</script>", "<script>": "<script></script>",
		"<!x-->y": "<!--x---->y", "<!>": "<!---->", "<!-->x": "<!-->x-->", "<?x": "<!--x-->",
		"<a href='\"&amp;'>1 < 2": "<a href=\"&quot;&amp;\">1 &lt; 2</a>", "a&lt;&no;": "a&lt;&amp;no;", "&#13;&#0;": "\ufffd\ufffd", "x</>y</b>z<b": "xyz",
	} {
		if got, n := parse.Settle([]byte(s)); got != want || n != 0 {
			t.Errorf("Settle of %+q: %+q, %d, not %+q", s, got, n, want)
		}
	}
	if got, n := parse.Settle(nil); got != "" || n != 0 {
		t.Errorf("Settle of no bytes: %q, %d", got, n)
	}
}

// settled is what Settle should tell, step by step as the chapter has it.
func settled(b string) (string, int) {
	texts := []string{write.Text(build.Tree(token.Tokens(utf.Right([]byte(b)))))}
	for {
		last := texts[len(texts)-1]
		texts = append(texts, write.Text(build.Tree(token.Tokens(last))))
		if texts[len(texts)-1] == last {
			return last, len(texts) - 2
		}
	}
}

func TestSettleOfMany(t *testing.T) {
	trials(4, func(b string) {
		got, n := parse.Settle([]byte(b))
		if want, k := settled(b); got != want || n != k || n != 0 {
			t.Fatalf("Settle of %+q: %+q, %d, not %+q, %d", b, got, n, want, k)
		}
	})
	// What settled is settled.
	trials(3, func(b string) {
		s, _ := parse.Settle([]byte(b))
		if got, n := parse.Settle([]byte(s)); got != s || n != 0 || !utf.Is(s) {
			t.Fatalf("Settle of %+q: %+q, %d", s, got, n)
		}
	})
}

func TestDeep(t *testing.T) {
	for i, x := range []struct {
		l    []api.Node
		want int
	}{
		// No elements.
		{nil, 0}, {list(), 0}, {list(text("x")), 0}, {list(note("x"), text("y"), note("")), 0},
		// Side by side.
		{list(el("b")), 1}, {list(el("br")), 1}, {list(el("b"), el("i"), el("b")), 1}, {list(text("x"), el("b"), note("y"), el("i"), text("z")), 1}, {list(with("b", "x", "1", "y", "2")), 1},
		// In one another.
		{chain("b", 2), 2}, {chain("b", 7), 7}, {list(el("a", el("b", el("c")))), 3},
		{slices.Concat(chain("b", 4), chain("b", 2), chain("b", 3)), 4}, {slices.Concat(chain("b", 2), chain("b", 4), chain("b", 3)), 4}, {slices.Concat(chain("b", 2), chain("b", 3), chain("b", 4)), 4},
		{list(el("a", el("b"), el("c", el("d", el("e")), el("f")), el("g", el("h")))), 4}, {list(el("a", el("b", el("c", el("d"))), el("e")), el("f", el("g"))), 4},
		// With texts and comments in them, which count for nothing.
		{list(el("b", text("x"))), 1}, {list(el("b", note("x"))), 1}, {list(el("b", text("x"), el("i", note("y"), text("z")), note("w"))), 2}, {chain("b", 5, text("x"), note("y")), 5},
		// Of nodes that may be, though they are not stable.
		{list(el("p", el("div", el("p", text("x"))))), 3}, {list(el("br", el("b", el("br")))), 3}, {list(el("script", el("b", el("i")), text("</script>"))), 3},
		{chain("b", 10000, text("x")), 10000}, {slices.Concat(chain("p", 9999), list(text("x")), chain("i", 10000)), 10000},
	} {
		if got := parse.Deep(x.l); got != x.want {
			t.Errorf("Deep of %d: %d, not %d", i, got, x.want)
		}
	}
}

// layers is how often elements' kids can be taken in their place.
func layers(l []api.Node) int {
	n := 0
	for {
		some := false
		var next []api.Node
		for _, x := range l {
			some = some || x.Kind == api.Element
			next = append(next, x.Kids...)
		}
		if !some {
			return n
		}
		n, l = n+1, next
	}
}

func TestDeepOfMany(t *testing.T) {
	small(func(l []api.Node) {
		if dom.May(l) == api.OK && parse.Deep(l) != layers(l) {
			t.Fatalf("Deep of %s: %d", show(l), parse.Deep(l))
		}
	})
	trials(3, func(b string) {
		if l := parse.Bytes([]byte(b)); parse.Deep(l) != layers(l) {
			t.Fatalf("Deep of %+q, parsed: %d", b, parse.Deep(l))
		}
	})
}

// P8.3

func TestWhatIsParsedMayBe(t *testing.T) {
	ask := func(b string) {
		l := parse.Bytes([]byte(b))
		if e := dom.May(l); e != api.OK {
			t.Fatalf("%+q is parsed as %s, which may not be: %d", b, show(l), e)
		}
		if s := write.Text(l); !same(parse.Text(s), l) {
			t.Fatalf("%+q is parsed as %s, but %+q as %s", b, show(l), s, show(parse.Text(s)))
		}
		if !model.Stable(l) || !parse.Keeps(l) || !same(parse.Again(l), l) {
			t.Fatalf("%+q is parsed as %s, which is not kept", b, show(l))
		}
	}
	trials(4, ask)
	for _, x := range slices.Concat(ordinary(), wrong()) {
		ask(x.s)
	}
	for c := range 256 {
		for _, s := range []string{"%", "<%", "<b%", "<b%>x</b%>", "<b x%y=%1 z='%'>", "</%", "</b%>", "<!%", "<!--%--%>", "&%;", "&#%;", "&lt%;", "<script>%</script%>x", "\r%", "\xc3%", "%\n"} {
			ask(strings.ReplaceAll(s, "%", string([]byte{byte(c)})))
		}
	}
}

func TestJustStableNodesAreKept(t *testing.T) {
	yes, no, not := 0, 0, 0
	small(func(l []api.Node) {
		got, may := parse.Keeps(l), dom.May(l) == api.OK
		if got != model.Stable(l) {
			t.Fatalf("Keeps of %s: %v", show(l), got)
		}
		switch {
		case got:
			yes++
		case may:
			no++
		default:
			not++
		}
	})
	if yes < 1000 || no < 1000 || not < 1000 {
		t.Error(yes, no, not)
	}
}

func TestSteadyNodesAreKept(t *testing.T) {
	small(func(l []api.Node) {
		if dom.May(l) == api.OK && !parse.Keeps(model.Steady(l)) {
			t.Fatalf("Keeps of %s, made steady: false", show(l))
		}
	})
}

// R4

// scribble writes over all that nodes hold, their spare room too.
func scribble(l []api.Node) {
	l = l[:cap(l)]
	for i := range l {
		scribble(l[i].Kids)
		a := l[i].Attrs[:cap(l[i].Attrs)]
		for k := range a {
			a[k] = api.Attr{Name: "scribbled", Value: "scribbled"}
		}
		l[i] = api.Node{Kind: 77, Name: "scribbled"}
	}
}

// spare is nodes with spare room behind each of their lists, which holds what is to be left alone.
func spare(l []api.Node) []api.Node {
	out := make([]api.Node, 0, len(l)+2)
	for _, n := range l {
		n.Kids = spare(n.Kids)
		n.Attrs = append(append(make([]api.Attr, 0, len(n.Attrs)+2), n.Attrs...), api.Attr{Name: "spare"}, api.Attr{Value: "spare"})[:len(n.Attrs)]
		out = append(out, n)
	}
	return append(out, el("spare"), text("spare"))[:len(l)]
}

// seen is all that nodes hold, their spare room too.
func seen(l []api.Node) []api.Node {
	var out []api.Node
	for _, n := range l[:cap(l)] {
		n.Attrs = slices.Clone(n.Attrs[:cap(n.Attrs)])
		n.Kids = seen(n.Kids)
		out = append(out, n)
	}
	return out
}

// subjects is nodes that are kept, that are not, and that may not be.
func subjects() [][]api.Node {
	out := append(kept(), barred()...)
	for _, x := range other() {
		out = append(out, x[0])
	}
	for i, l := range out {
		out[i] = spare(l)
	}
	return out
}

func TestNodesAreNotChanged(t *testing.T) {
	for _, l := range subjects() {
		before := seen(l)
		got := parse.Again(l)
		want := dom.Clone(got)
		parse.Keeps(l)
		if dom.May(l) == api.OK {
			parse.Deep(l)
		}
		if !reflect.DeepEqual(seen(l), before) {
			t.Errorf("%s has changed", show(before))
		}
		scribble(parse.Again(l))
		if !reflect.DeepEqual(seen(l), before) {
			t.Errorf("what is again %s reaches into it", show(before))
		}
		scribble(l)
		if !same(got, want) {
			t.Errorf("what was told of %s keeps it", show(before))
		}
	}
}

func TestBytesAreNotChanged(t *testing.T) {
	const room = "</b>\r\x00spare"
	for _, x := range slices.Concat(ordinary(), wrong()) {
		all := []byte(x.s + room)
		b := all[:len(x.s)]
		got := parse.Bytes(b)
		s, n := parse.Settle(b)
		scribble(parse.Bytes(b))
		if string(all) != x.s+room {
			t.Errorf("%+q has changed", x.s)
		}
		for i := range all {
			all[i] = '#'
		}
		if !same(got, x.want) || s != write.Text(x.want) || n != 0 {
			t.Errorf("what was told of %+q keeps it", x.s)
		}
	}
}

func TestAnswersAreNew(t *testing.T) {
	s := "<a x=1 y=2><b z=3>x<!--c--></b><i u=1 v=2></i></a><p>x<p>y"
	want := parse.Text(s)
	for i := range want {
		got := parse.Text(s)
		scribble(got[i : i+1 : i+1])
		if !same(got[:i], want[:i]) || !same(got[i+1:], want[i+1:]) {
			t.Fatalf("a list is told twice, at %d", i)
		}
	}
	again := parse.Again(want)
	scribble(parse.Again(want))
	scribble(parse.Bytes([]byte(s)))
	if !same(parse.Text(s), want) || !same(again, want) {
		t.Error("writing into an answer changed another one")
	}
}

// R5

func TestTheSameEachTime(t *testing.T) {
	s := long(slices.Concat(sets()...), 500, 7)
	first := parse.Bytes([]byte(s))
	told, _ := parse.Settle([]byte(s))
	for range 50 {
		got, n := parse.Settle([]byte(s))
		if !reflect.DeepEqual(parse.Bytes([]byte(s)), first) || got != told || n != 0 {
			t.Fatal("another answer for the same bytes")
		}
	}
}

// Deep, and many.

func TestDeepInOneAnother(t *testing.T) {
	const deep = 10000
	want := chain("b", deep, text("x"))
	full := strings.Repeat("<b>", deep) + "x" + strings.Repeat("</b>", deep)
	for _, s := range []string{full, strings.Repeat("<b>", deep) + "x", strings.Repeat("<B\r>", deep) + "x</i>"} {
		l := parse.Bytes([]byte(s))
		if !same(l, want) || !parse.Keeps(l) || parse.Deep(l) != deep {
			t.Errorf("%.20q and so on: %s", s, show(l))
		}
		if got, n := parse.Settle([]byte(s)); got != full || n != 0 {
			t.Errorf("Settle of %.20q and so on: %.20q, %d", s, got, n)
		}
	}
	if got := parse.Again(chain("p", deep)); len(got) != deep || parse.Keeps(chain("p", deep)) {
		t.Error("elements deep in one another, each of which closes the one around it")
	}
}

func TestManyBytes(t *testing.T) {
	const many = 50000
	for _, x := range []struct {
		part string
		each int
	}{
		{"<p>x<hr>", 2}, {"<li a=1>&lt;\r\n", 1}, {"<!--x-->", 1}, {"<script></b></script>", 1}, {"x</b><br>", 2}, {"<b></b></></i>", 1},
	} {
		b := []byte(strings.Repeat(x.part, many))
		l := parse.Bytes(b)
		if len(l) != many*x.each || !parse.Keeps(l) {
			t.Errorf("many %q: %d", x.part, len(l))
		}
		if s, n := parse.Settle(b); s != write.Text(l) || n != 0 {
			t.Errorf("Settle of many %q: %d", x.part, n)
		}
	}
	for _, part := range []string{"<", "</", "<!", "<!--", "<a ", "<a x='", "<script>", "&", "&#1", "\r", "\xff", "x</>", "</b>"} {
		if l := parse.Bytes([]byte(strings.Repeat(part, many))); len(l) > 1 || !parse.Keeps(l) {
			t.Errorf("many %q: %d", part, len(l))
		}
	}
}
