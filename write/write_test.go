package write_test

import (
	"reflect"
	"slices"
	"strings"
	"testing"

	"strainer/api"
	"strainer/refs"
	"strainer/write"
)

// The calls have just these signatures.
var (
	_ func([]api.Node) string = write.Text
	_ func(api.Node) string   = write.Open
	_ func(api.Node) string   = write.Close
	_ func([]api.Node) int    = write.Length
	_ func([]api.Node) string = write.Plain
)

// text is a text.
func text(s string) api.Node { return api.Node{Kind: api.Text, Text: s} }

// note is a comment.
func note(s string) api.Node { return api.Node{Kind: api.Comment, Text: s} }

// el is an element with kids.
func el(name string, kids ...api.Node) api.Node {
	return api.Node{Kind: api.Element, Name: name, Kids: kids}
}

// with is an element with attributes, names and values by turns.
func with(name string, l ...string) api.Node {
	n := el(name)
	for i := 0; i+1 < len(l); i += 2 {
		n.Attrs = append(n.Attrs, api.Attr{Name: l[i], Value: l[i+1]})
	}
	return n
}

// in is an element with those kids.
func in(n api.Node, kids ...api.Node) api.Node {
	n.Kids = kids
	return n
}

// list is nodes.
func list(l ...api.Node) []api.Node { return l }

// chain is elements in one another, with those nodes in the last one.
func chain(name string, deep int, in ...api.Node) []api.Node {
	for range deep {
		in = list(el(name, in...))
	}
	return in
}

// forests is all lists of up to so many nodes in all that have these shapes; elements have kids of the same kind.
func forests(shapes []api.Node, most int) [][]api.Node {
	out := [][]api.Node{nil}
	if most == 0 {
		return out
	}
	for _, n := range shapes {
		kids := [][]api.Node{nil}
		if n.Kind == api.Element {
			kids = forests(shapes, most-1)
		}
		for _, k := range kids {
			for _, rest := range forests(shapes, most-1-count(k)) {
				out = append(out, append(list(in(n, k...)), rest...))
			}
		}
	}
	return out
}

// count is how many nodes there are.
func count(l []api.Node) int {
	sum := len(l)
	for _, n := range l {
		sum += count(n.Kids)
	}
	return sum
}

// example is nodes, and what the calls tell of them.
type example struct {
	l           []api.Node
	text, plain string
}

// examples is nodes of each shape that the chapter names.
func examples() []example {
	long := strings.Repeat("<", 100000)
	return []example{
		// No nodes.
		{nil, "", ""},
		{[]api.Node{}, "", ""},
		// Elements without attributes, without kids, with both.
		{list(el("b")), "<b></b>", ""},
		{list(el("b", text("x"))), "<b>x</b>", "x"},
		{list(el("x-1")), "<x-1></x-1>", ""},
		{list(el("b"), el("b")), "<b></b><b></b>", ""},
		{list(el("b", el("i", text("x")), text("y"))), "<b><i>x</i>y</b>", "xy"},
		{list(text("1"), el("b", text("2"), el("i", text("3")), text("4")), text("5")), "1<b>2<i>3</i>4</b>5", "12345"},
		{list(with("a", "id", "1")), `<a id="1"></a>`, ""},
		{list(with("a", "id", "")), `<a id=""></a>`, ""},
		{list(with("a", "b", "1", "a", "2", "c", "")), `<a b="1" a="2" c=""></a>`, ""},
		{list(with("a", "x", "1", "x", "2")), `<a x="1" x="2"></a>`, ""},
		{list(in(with("a", "href", "x&y"), text("1 < 2"))), `<a href="x&amp;y">1 &lt; 2</a>`, "1 < 2"},
		{list(in(with("a", "t", "in"), el("b", in(with("i", "u", "v"), text("w"))))), `<a t="in"><b><i u="v">w</i></b></a>`, "w"},
		// Names are written as they are.
		{list(el("B", text("x"))), "<B>x</B>", "x"},
		{list(el("")), "<></>", ""},
		{list(el("a<&\"")), "<a<&\"></a<&\">", ""},
		{list(with("a", "&<\"'", "1", "B", "2", "", "3")), `<a &<"'="1" B="2" ="3"></a>`, ""},
		// Void elements: their kids are not told, but are plain.
		{list(el("br"), el("hr"), el("img"), el("input"), el("wbr")), "<br><hr><img><input><wbr>", ""},
		{list(el("br", text("x"))), "<br>", "x"},
		{list(el("b", with("img", "src", "a.png", "alt", ""), text("x"))), `<b><img src="a.png" alt="">x</b>`, "x"},
		{list(text("x"), in(with("img", "a", "<"), text("y"), el("b", text("z")), note("c")), text("u")), `x<img a="&lt;">u`, "xyzu"},
		{list(el("hr", el("hr", text("x"), el("br", text("y")))), text("z")), "<hr>z", "xyz"},
		// As they are named, so only are they void or raw.
		{list(el("BR", text("x")), el("br-", text("<"))), "<BR>x</BR><br->&lt;</br->", "x<"},
		{list(el("SCRIPT", text("<")), el("scripts", text("<")), el("title", text("<")), el("textarea", text("&"))), "<SCRIPT>&lt;</SCRIPT><scripts>&lt;</scripts><title>&lt;</title><textarea>&amp;</textarea>", "<<<&"},
		// Raw elements: texts are unchanged, but only those that stand right in them.
		{list(el("script", text("a<b&&c>d\"'"))), "<script>a<b&&c>d\"'</script>", "a<b&&c>d\"'"},
		{list(el("style", text("&amp;</style>"))), "<style>&amp;</style></style>", "&amp;</style>"},
		{list(el("style", el("b", text("<")))), "<style><b>&lt;</b></style>", "<"},
		{list(el("script", text("<"), el("b", text("<")), text(">"), note("<"), text("&"))), "<script><<b>&lt;</b>><!--<-->&</script>", "<<>&"},
		{list(el("script", el("style", text("<")), el("b", el("script", text("&"))))), "<script><style><</style><b><script>&</script></b></script>", "<&"},
		{list(el("script", el("br", text("<")), text("<"))), "<script><br><</script>", "<<"},
		{list(el("script", text("<")), text("<")), "<script><</script>&lt;", "<<"},
		{list(el("script"), text("&")), "<script></script>&amp;", "&"},
		{list(in(with("script", "src", "<\">"), text("<"))), `<script src="&lt;&quot;&gt;"><</script>`, "<"},
		// Comments: as they are.
		{list(note("")), "<!---->", ""},
		{list(note("a<b>&\"c'")), "<!--a<b>&\"c'-->", ""},
		{list(note("-->&amp;<!--")), "<!---->&amp;<!---->", ""},
		{list(note("x"), note("y"), text(">"), el("b", note("z"))), "<!--x--><!--y-->&gt;<b><!--z--></b>", ">"},
		// Texts and values: as chapter 2 says of each.
		{list(text("")), "", ""},
		{list(text("<>&\"'")), "&lt;&gt;&amp;\"'", "<>&\"'"},
		{list(text("&amp;lt;")), "&amp;amp;lt;", "&amp;lt;"},
		{list(text("x"), text("y")), "xy", "xy"},
		{list(with("a", "x", "<>&\"'")), `<a x="&lt;&gt;&amp;&quot;'"></a>`, ""},
		{list(with("a", "x", "&quot;", "y", "\"\"")), `<a x="&amp;quot;" y="&quot;&quot;"></a>`, ""},
		{list(text(" \t\n\u00a0\u20ac\U0001f600")), " \t\n\u00a0\u20ac\U0001f600", " \t\n\u00a0\u20ac\U0001f600"},
		{list(with("a", "x", " \t\n\u00a0\u20ac")), "<a x=\" \t\n\u00a0\u20ac\"></a>", ""},
		{list(text("\xff\x00\r"), note("\xff\r"), with("a", "\xff", "\x00\xfe")), "\xff\x00\r<!--\xff\r--><a \xff=\"\x00\xfe\"></a>", "\xff\x00\r"},
		{list(text(long), note(long)), strings.Repeat("&lt;", 100000) + "<!--" + long + "-->", long},
		// Deep in one another.
		{chain("b", 10000, text("<")), strings.Repeat("<b>", 10000) + "&lt;" + strings.Repeat("</b>", 10000), "<"},
		{chain("script", 9999, text("<"), el("br")), strings.Repeat("<script>", 9999) + "<<br>" + strings.Repeat("</script>", 9999), "<"},
		{chain("br", 10000, text("x")), "<br>", "x"},
	}
}

// P4.1

func TestText(t *testing.T) {
	for i, x := range examples() {
		if got := write.Text(x.l); got != x.text {
			t.Errorf("Text of %d: %.200q, not %.200q", i, got, x.text)
		}
	}
}

func TestLength(t *testing.T) {
	for i, x := range examples() {
		if got := write.Length(x.l); got != len(x.text) {
			t.Errorf("Length of %d: %d, not %d", i, got, len(x.text))
		}
	}
}

func TestPlain(t *testing.T) {
	for i, x := range examples() {
		if got := write.Plain(x.l); got != x.plain {
			t.Errorf("Plain of %d: %.200q, not %.200q", i, got, x.plain)
		}
	}
}

func TestOpenAndClose(t *testing.T) {
	for i, x := range []struct {
		n           api.Node
		open, close string
	}{
		{el("b"), "<b>", "</b>"},
		{el("b", text("x"), el("i")), "<b>", "</b>"},
		{with("a", "id", "1"), `<a id="1">`, "</a>"},
		{with("a", "id", ""), `<a id="">`, "</a>"},
		{with("a", "b", "1", "a", "<>&\"'"), `<a b="1" a="&lt;&gt;&amp;&quot;'">`, "</a>"},
		{in(with("x-1", "id", "1"), text("<")), `<x-1 id="1">`, "</x-1>"},
		{el("A"), "<A>", "</A>"},
		{el(""), "<>", "</>"},
		{el("script", text("<")), "<script>", "</script>"},
		{with("style", "x", "<"), `<style x="&lt;">`, "</style>"},
		{el("br"), "<br>", ""},
		{el("hr"), "<hr>", ""},
		{el("img"), "<img>", ""},
		{el("input"), "<input>", ""},
		{el("wbr"), "<wbr>", ""},
		{el("br", text("x")), "<br>", ""},
		{with("img", "src", "x&y", "alt", ""), `<img src="x&amp;y" alt="">`, ""},
		{el("BR"), "<BR>", "</BR>"},
		{text("x"), "", ""},
		{text(""), "", ""},
		{text("<b>"), "", ""},
		{note("x"), "", ""},
		{note(""), "", ""},
		{note("<"), "", ""},
	} {
		if got := write.Open(x.n); got != x.open {
			t.Errorf("Open of %d: %q, not %q", i, got, x.open)
		}
		if got := write.Close(x.n); got != x.close {
			t.Errorf("Close of %d: %q, not %q", i, got, x.close)
		}
	}
}

// wholes is what the chapter says of nodes' text, put together from the outside in: what stands ahead of kids, kids, what stands behind.
func wholes(l []api.Node, raw bool) string {
	out := ""
	for _, n := range l {
		switch {
		case n.Kind == api.Comment:
			out += "<!--" + n.Text + "-->"
		case n.Kind == api.Text && raw:
			out += n.Text
		case n.Kind == api.Text:
			out += refs.Escape(n.Text, false)
		case slices.Contains([]string{"br", "hr", "img", "input", "wbr"}, n.Name):
			out += write.Open(n)
		default:
			out += write.Open(n) + wholes(n.Kids, n.Name == "script" || n.Name == "style") + write.Close(n)
		}
	}
	return out
}

// shapes is a node of each sort.
func shapes() []api.Node {
	return []api.Node{with("a", "x", "\"&", "y", ""), el("br"), el("script"), text("<"), note("&")}
}

func TestAllSmallForests(t *testing.T) {
	for _, l := range forests(shapes(), 5) {
		got, want := write.Text(l), wholes(l, false)
		if got != want {
			t.Fatalf("Text of %v: %q, not %q", l, got, want)
		}
		if n := write.Length(l); n != len(want) {
			t.Fatalf("Length of %v: %d, not %d", l, n, len(want))
		}
		if got, want := write.Plain(l), strings.Repeat("<", texts(l)); got != want {
			t.Fatalf("Plain of %v: %q, not %q", l, got, want)
		}
	}
}

// texts is how many texts there are among nodes.
func texts(l []api.Node) int {
	sum := 0
	for _, n := range l {
		sum += texts(n.Kids)
		if n.Kind == api.Text {
			sum++
		}
	}
	return sum
}

func TestManyNodes(t *testing.T) {
	many := make([]api.Node, 200000)
	for i := range many {
		many[i] = text("&")
	}
	l := chain("b", 9000, many...)
	want := strings.Repeat("<b>", 9000) + strings.Repeat("&amp;", len(many)) + strings.Repeat("</b>", 9000)
	if got := write.Text(l); got != want {
		t.Errorf("Text of many: %d bytes, not %d", len(got), len(want))
	}
	if n := write.Length(l); n != len(want) {
		t.Errorf("Length of many: %d, not %d", n, len(want))
	}
	if got := write.Plain(l); got != strings.Repeat("&", len(many)) {
		t.Errorf("Plain of many: %d bytes", len(got))
	}
}

// P4.2

func TestTwoListsAreWrittenOneBehindTheOther(t *testing.T) {
	ask := func(a, b []api.Node) {
		both := slices.Concat(a, b)
		if got, want := write.Text(both), write.Text(a)+write.Text(b); got != want {
			t.Fatalf("Text of %v and %v: %.200q, not %.200q", a, b, got, want)
		}
		if got, want := write.Length(both), write.Length(a)+write.Length(b); got != want {
			t.Fatalf("Length of %v and %v: %d, not %d", a, b, got, want)
		}
		if got, want := write.Plain(both), write.Plain(a)+write.Plain(b); got != want {
			t.Fatalf("Plain of %v and %v: %.200q, not %.200q", a, b, got, want)
		}
	}
	small := forests(shapes(), 2)
	for _, a := range small {
		for _, b := range small {
			ask(a, b)
		}
	}
	for _, a := range examples() {
		ask(a.l, list(text("<"), el("br")))
		ask(list(el("script", text("<")), note("c")), a.l)
		if got, want := write.Text(slices.Concat(a.l, a.l)), a.text+a.text; got != want {
			t.Errorf("Text of nodes twice: %.200q, not %.200q", got, want)
		}
	}
}

// R4

// spare is nodes with spare room behind each of their lists, which holds nodes and attributes that are to be left alone.
func spare(l []api.Node) []api.Node {
	out := make([]api.Node, 0, len(l)+2)
	for _, n := range l {
		n.Attrs = append(append(make([]api.Attr, 0, len(n.Attrs)+2), n.Attrs...), api.Attr{Name: "spare"}, api.Attr{Value: "spare"})[:len(n.Attrs)]
		n.Kids = spare(n.Kids)
		out = append(out, n)
	}
	return append(out, text("spare"), el("spare"))[:len(l)]
}

// seen is all that nodes hold, their spare room too.
func seen(l []api.Node) []api.Node {
	var out []api.Node
	for _, n := range l[:cap(l)] {
		n.Attrs = slices.Clone(n.Attrs[:cap(n.Attrs)])
		n.Kids = seen(n.Kids)
		out = append(out, n)
	}
	return out
}

// scribble writes over all that nodes hold, their spare room too.
func scribble(l []api.Node) {
	l = l[:cap(l)]
	for i := range l {
		scribble(l[i].Kids)
		a := l[i].Attrs[:cap(l[i].Attrs)]
		for k := range a {
			a[k] = api.Attr{Name: "scribbled", Value: "scribbled"}
		}
		l[i] = note("scribbled")
	}
}

// answers is what all calls tell of nodes.
func answers(l []api.Node) []string {
	out := []string{write.Text(l), write.Plain(l), strings.Repeat(".", write.Length(l))}
	for _, n := range l {
		out = append(out, write.Open(n), write.Close(n))
	}
	return out
}

// subject is nodes of each sort, with spare room.
func subject() []api.Node {
	l := shapes()
	l[0].Kids = list(text("p"), el("i", note("q"), text("&")))
	l[1].Kids = list(text("r"))
	l[2].Kids = list(text("<"), el("b", text("<")))
	return spare(l)
}

func TestNothingIsChanged(t *testing.T) {
	l := subject()
	kept := seen(l)
	answers(l)
	if !reflect.DeepEqual(seen(l), kept) {
		t.Error("what was handed in has changed")
	}
}

func TestNothingIsKept(t *testing.T) {
	l := subject()
	got, want := answers(l), answers(subject())
	scribble(l)
	if !slices.Equal(got, want) {
		t.Errorf("what was answered changed with what was handed in: %q", got)
	}
	// Nor does anything stay from one call to the next.
	if again := answers(subject()); !slices.Equal(again, want) {
		t.Errorf("the same nodes are told otherwise: %q", again)
	}
}
