package dom_test

import (
	"reflect"
	"regexp"
	"slices"
	"strings"
	"testing"
	"unicode/utf8"

	"strainer/api"
	"strainer/dom"
)

// The calls have just these signatures.
var (
	_ func(string) bool                     = dom.Named
	_ func(string) bool                     = dom.Attributed
	_ func(string) bool                     = dom.Void
	_ func(string) bool                     = dom.Raw
	_ func([]api.Node) api.Errno            = dom.May
	_ func([]api.Node, []api.Node) bool     = dom.Same
	_ func([]api.Node) []api.Node           = dom.Clone
	_ func([]api.Node) int                  = dom.Weight
	_ func([]api.Node) []api.Node           = dom.All
	_ func([]api.Node) []api.Node           = dom.Merge
	_ func(api.Node, string) (string, bool) = dom.Value
)

// text is a text.
func text(s string) api.Node { return api.Node{Kind: api.Text, Text: s} }

// note is a comment.
func note(s string) api.Node { return api.Node{Kind: api.Comment, Text: s} }

// el is an element with kids.
func el(name string, kids ...api.Node) api.Node {
	return api.Node{Kind: api.Element, Name: name, Kids: kids}
}

// with is an element with attributes, names and values by turns.
func with(name string, l ...string) api.Node {
	n := el(name)
	for i := 0; i+1 < len(l); i += 2 {
		n.Attrs = append(n.Attrs, api.Attr{Name: l[i], Value: l[i+1]})
	}
	return n
}

// list is nodes.
func list(l ...api.Node) []api.Node { return l }

// odd is a text and a comment that have what only elements should have, at two depths.
func odd() []api.Node {
	x := text("x")
	x.Name, x.Attrs = "n", []api.Attr{{Name: "k", Value: "1"}, {Name: "k", Value: "2"}}
	c := note("c")
	c.Attrs = []api.Attr{{Name: "c", Value: "3"}}
	c.Kids = list(x, text(""), el("b", text("y"), text("z")))
	t := text("t")
	t.Kids = list(c, with("a", "id", "4"))
	return list(t, c)
}

// chain is elements in one another, with those nodes in the last one.
func chain(deep int, in ...api.Node) []api.Node {
	for range deep {
		in = list(el("b", in...))
	}
	return in
}

// forests is all lists of up to so many nodes in all that have these shapes, and a kid list of the same kind.
func forests(shapes []api.Node, most int) [][]api.Node {
	out := [][]api.Node{nil}
	if most == 0 {
		return out
	}
	for _, n := range shapes {
		for _, kids := range forests(shapes, most-1) {
			n := n
			n.Kids = kids
			for _, rest := range forests(shapes, most-1-count(kids)) {
				out = append(out, append(list(n), rest...))
			}
		}
	}
	return out
}

// count is how many nodes there are.
func count(l []api.Node) int {
	sum := len(l)
	for _, n := range l {
		sum += count(n.Kids)
	}
	return sum
}

// plain is nodes with all their empty lists nil, by which reflect takes nil and empty as one.
func plain(l []api.Node) []api.Node {
	var out []api.Node
	for _, n := range l {
		n.Kids = plain(n.Kids)
		n.Attrs = append([]api.Attr(nil), n.Attrs...)
		out = append(out, n)
	}
	return out
}

// equal holds nodes against each other.
func equal(a, b []api.Node) bool {
	return reflect.DeepEqual(plain(a), plain(b))
}

// P3.1

func TestNamed(t *testing.T) {
	for s, want := range map[string]bool{
		"a": true, "z": true, "b": true, "h1": true, "x-1": true, "a-": true, "a--": true, "a0": true, "a9": true, "my-own-element": true,
		strings.Repeat("a", 17): true, "a" + strings.Repeat("-9z", 50000): true,
		"": false, "1": false, "1a": false, "-": false, "-a": false, "A": false, "aB": false, "Ab": false, "a_": false, "a.b": false, "a:b": false,
		" a": false, "a ": false, "a b": false, "a\n": false, "a\x00": false, "\u00e9": false, "a\u00e9": false, "a\xff": false, "\xff": false,
		"`": false, "{": false, "a`": false, "a{": false, "a/": false, "a0:": false, "#text": false, "*": false,
	} {
		if dom.Named(s) != want {
			t.Errorf("Named of %.40q: %v", s, !want)
		}
	}
}

func TestNamedOfEachByte(t *testing.T) {
	first, behind := regexp.MustCompile(`^[a-z]$`), regexp.MustCompile(`^[a-z0-9-]$`)
	for c := range 256 {
		s := string([]byte{byte(c)})
		if got, want := dom.Named(s), first.MatchString(s); got != want {
			t.Errorf("Named of %q: %v", s, got)
		}
		for _, x := range []string{"x" + s, "x" + s + "x", "1" + s} {
			if got, want := dom.Named(x), x[0] == 'x' && behind.MatchString(s); got != want {
				t.Errorf("Named of %q: %v", x, got)
			}
		}
	}
}

func TestAttributed(t *testing.T) {
	for s, want := range map[string]bool{
		"a": true, "id": true, "1": true, "-": true, "data-x": true, "\u00e9:\"": true, "'": true, "<": true, "a<b": true, "&amp;": true, "*": true, "data-*": true,
		"\x01": true, "\v": true, "\x7f": true, "\u00a0": true, "\u2028": true, "\ufffd": true, "\U0001f600": true, "\u00c0": true, "[": true, "@": true, "[x]": true,
		strings.Repeat("x", 100000): true,
		"":                          false, "A": false, "Z": false, "aB": false, "Id": false, "a\t": false, "\tb": false, "a\nb": false, "a\fb": false, "a b": false, " ": false,
		"/": false, "a/b": false, ">": false, "a>": false, "=": false, "=a": false, "a=b": false, "a\r": false, "\r": false, "a\x00": false, "\x00": false,
		"\xff": false, "a\xc3": false, "\xed\xa0\x80": false, "\xc0\x80": false, "a\xf5": false,
	} {
		if dom.Attributed(s) != want {
			t.Errorf("Attributed of %.40q: %v", s, !want)
		}
	}
}

func TestAttributedOfEachByte(t *testing.T) {
	barred := "\x00\t\n\f\r />=ABCDEFGHIJKLMNOPQRSTUVWXYZ"
	for c := range 256 {
		s := string([]byte{byte(c)})
		want := c < 128 && !strings.Contains(barred, s)
		for _, x := range []string{s, "x" + s, s + "x", "\u00e9" + s + "1"} {
			if got := dom.Attributed(x); got != want {
				t.Errorf("Attributed of %q: %v", x, got)
			}
		}
	}
	for r := rune(128); r <= utf8.MaxRune; r += 97 {
		if s := string(r); !dom.Attributed(s) {
			t.Errorf("Attributed of %q", s)
		}
	}
}

func TestVoidAndRaw(t *testing.T) {
	void, raw := []string{"br", "hr", "img", "input", "wbr"}, []string{"script", "style"}
	for _, s := range append(append([]string{"", "b", "a", "p", "BR", "Br", "br ", " br", "b\x00r", "title", "textarea", "col", "link", "meta", "SCRIPT", "Style", "script>", "styl", "styles", "area", "\xff"}, void...), raw...) {
		if got := dom.Void(s); got != slices.Contains(void, s) {
			t.Errorf("Void of %q: %v", s, got)
		}
		if got := dom.Raw(s); got != slices.Contains(raw, s) {
			t.Errorf("Raw of %q: %v", s, got)
		}
	}
}

func TestValue(t *testing.T) {
	n := with("a", "x", "1", "y", "", "x", "2", "", "none", "\xff", "\xfe")
	for _, n := range []api.Node{n, {Kind: api.Text, Attrs: n.Attrs}, {Kind: api.Comment, Attrs: n.Attrs}, {Kind: 9, Attrs: n.Attrs}, {Attrs: n.Attrs}} {
		for _, x := range []struct {
			name, value string
			is          bool
		}{
			{"x", "1", true}, {"y", "", true}, {"", "none", true}, {"\xff", "\xfe", true},
			{"X", "", false}, {"z", "", false}, {"x ", "", false}, {"1", "", false}, {"none", "", false}, {"a", "", false},
		} {
			if v, is := dom.Value(n, x.name); v != x.value || is != x.is {
				t.Errorf("Value of kind %d, %q: %q, %v", n.Kind, x.name, v, is)
			}
		}
	}
	// Only its own attributes are asked.
	if v, is := dom.Value(el("b", with("a", "id", "1")), "id"); v != "" || is {
		t.Error(v, is)
	}
	if v, is := dom.Value(api.Node{Name: "id", Text: "1"}, "id"); v != "" || is {
		t.Error(v, is)
	}
}

// P3.2

func TestMayOfNodesThatMay(t *testing.T) {
	for i, l := range [][]api.Node{
		nil,
		{},
		{text("x")},
		{note("")},
		{note(""), note("")},
		{note("--> <!-- \n\u00e9")},
		{el("b")},
		{el("x-1"), el("x-1")},
		{text("x"), el("b", text("y")), text("z")},
		{text("x"), note("c"), text("y"), note("")},
		{text("x"), el("b"), text("y")},
		{el("b", text("x")), text("y")},
		{text("x"), el("b", text("y"), el("i", text("z"), note("")), text("u")), text("v")},
		{with("a", "id", "", "x", "1", "\u00e9", "\u00e9 \n\t\"'<>&")},
		{with("br", "a", "1"), with("br", "a", "1")},
		// What does not outlast being written may be all the same.
		{el("br", text("x"))},
		{el("script", el("b"), text("</script>"))},
		{el("p", el("p", el("div")))},
		{text("\n"), el(strings.Repeat("a", 1000))},
		{{Kind: api.Text, Text: "x", Attrs: []api.Attr{}, Kids: []api.Node{}}, {Kind: api.Comment, Attrs: []api.Attr{}, Kids: []api.Node{}}, {Kind: api.Element, Name: "b", Attrs: []api.Attr{}, Kids: []api.Node{}}},
		chain(10000, text("x")),
	} {
		if e := dom.May(l); e != api.OK {
			t.Errorf("May of %d: %d", i, e)
		}
	}
}

func TestMayOfOneNode(t *testing.T) {
	kids := list(text("k"))
	attrs := []api.Attr{{Name: "k", Value: "v"}}
	for i, x := range []struct {
		n api.Node
		e api.Errno
	}{
		// Kinds, and fields that should be zero.
		{api.Node{}, api.ErrKind},
		{api.Node{Kind: 4, Text: "x"}, api.ErrKind},
		{api.Node{Kind: -1, Name: "b"}, api.ErrKind},
		{api.Node{Kind: 1 << 40, Name: "b"}, api.ErrKind},
		{api.Node{Kind: api.Element, Name: "b", Text: "x"}, api.ErrKind},
		{api.Node{Kind: api.Text, Text: "x", Name: "b"}, api.ErrKind},
		{api.Node{Kind: api.Text, Text: "x", Attrs: attrs}, api.ErrKind},
		{api.Node{Kind: api.Text, Text: "x", Kids: kids}, api.ErrKind},
		{api.Node{Kind: api.Comment, Text: "x", Name: "b"}, api.ErrKind},
		{api.Node{Kind: api.Comment, Attrs: attrs}, api.ErrKind},
		{api.Node{Kind: api.Comment, Kids: kids}, api.ErrKind},
		// Names of elements.
		{el(""), api.ErrName},
		{el("A"), api.ErrName},
		{el("aB"), api.ErrName},
		{el("1"), api.ErrName},
		{el("1a"), api.ErrName},
		{el("-a"), api.ErrName},
		{el("a b"), api.ErrName},
		{el("a\x00"), api.ErrName},
		{el("\xff"), api.ErrName},
		{el("#text"), api.ErrName},
		// Names of attributes.
		{with("a", "", ""), api.ErrName},
		{with("a", "aX", ""), api.ErrName},
		{with("a", "a\tb", ""), api.ErrName},
		{with("a", "a\nb", ""), api.ErrName},
		{with("a", "a\fb", ""), api.ErrName},
		{with("a", "a b", ""), api.ErrName},
		{with("a", "a\rb", ""), api.ErrName},
		{with("a", "a/b", ""), api.ErrName},
		{with("a", "a>b", ""), api.ErrName},
		{with("a", "a=b", ""), api.ErrName},
		{with("a", "a\xff", ""), api.ErrName},
		{with("a", "a\x00", ""), api.ErrName},
		{with("a", "ok", "", "", ""), api.ErrName},
		{with("a", "id", "1", "id", "2"), api.ErrTwice},
		{with("a", "id", "1", "id", "1"), api.ErrTwice},
		{with("a", "x", "", "y", "", "z", "", "y", ""), api.ErrTwice},
		// Texts and values that are not right, or empty.
		{with("a", "x", "\x00"), api.ErrForm},
		{with("a", "x", "a\r\n"), api.ErrForm},
		{with("a", "x", "", "y", "\xc3"), api.ErrForm},
		{text(""), api.ErrForm},
		{text("a\r"), api.ErrForm},
		{text("a\x00b"), api.ErrForm},
		{text("\xed\xa0\x80"), api.ErrForm},
		{note("\xff"), api.ErrForm},
		{note("\r"), api.ErrForm},
		{note("\x00"), api.ErrForm},
		// Which one comes first.
		{api.Node{Kind: 9, Name: "A", Text: "\xff", Attrs: []api.Attr{{}}}, api.ErrKind},
		{api.Node{Kind: api.Element, Name: "A", Text: "x"}, api.ErrKind},
		{api.Node{Kind: api.Element, Name: "", Text: "\xff", Attrs: []api.Attr{{}}}, api.ErrKind},
		{api.Node{Kind: api.Text, Text: "", Name: "A"}, api.ErrKind},
		{api.Node{Kind: api.Text, Text: "\xff", Attrs: []api.Attr{{}}}, api.ErrKind},
		{api.Node{Kind: api.Comment, Text: "\xff", Kids: list(api.Node{})}, api.ErrKind},
		{with("A", "id", "1", "id", "2"), api.ErrName},
		{with("A", "id", "\xff"), api.ErrName},
		{with("a", "X", "", "id", "1", "id", "2"), api.ErrName},
		{with("a", "id", "1", "id", "2", "X", ""), api.ErrTwice},
		{with("a", "X", "", "X", ""), api.ErrName},
		{with("a", "x", "\x00", "x", ""), api.ErrTwice},
		{with("a", "x", "\x00", "Y", ""), api.ErrName},
		{with("a", "x", "", "y", "\xff", "z", "", "x", ""), api.ErrTwice},
	} {
		if e := dom.May(list(x.n)); e != x.e {
			t.Errorf("May of %d: %d, not %d", i, e, x.e)
		}
		for _, l := range [][]api.Node{
			{note(""), x.n, note("")},
			{el("b", x.n), el("1")},
			{el("b", el("i"), x.n, api.Node{}), text("")},
			chain(40, x.n, el("")),
		} {
			if e := dom.May(l); e != x.e {
				t.Errorf("May of %d within: %d, not %d", i, e, x.e)
			}
		}
	}
}

func TestMayOfTextsSideBySide(t *testing.T) {
	for i, x := range []struct {
		l []api.Node
		e api.Errno
	}{
		{list(text("x"), text("y")), api.ErrForm},
		{list(text("x"), text("")), api.ErrForm},
		{list(text(""), text("x")), api.ErrForm},
		{list(text("x"), text(""), text("y")), api.ErrForm},
		{list(el("b"), text("x"), text("y"), el("b")), api.ErrForm},
		{list(el("b", text("x"), text("y"))), api.ErrForm},
		{list(el("b", el("i", note(""), text("x"), text("y")))), api.ErrForm},
		{list(text("x"), note(""), text("y"), text("z")), api.ErrForm},
		// A text that has what it should not have is told as that ahead of standing behind another one.
		{list(text("x"), api.Node{Kind: api.Text, Text: "y", Name: "a"}), api.ErrKind},
		{list(text("x"), api.Node{Kind: api.Text, Kids: list(text("y"))}), api.ErrKind},
		// What stands at an end of kids is not beside what stands outside.
		{list(text("x"), el("b", text("y")), text("z")), api.OK},
		{list(el("b", text("x")), el("b", text("y"))), api.OK},
		{list(el("b", text("x"), el("i", text("y"), el("u")), text("z")), text("v")), api.OK},
	} {
		if e := dom.May(x.l); e != x.e {
			t.Errorf("May of %d: %d, not %d", i, e, x.e)
		}
	}
}

func TestMayTellsTheFirstOfAll(t *testing.T) {
	kind, name, twice, form := api.Node{}, el("A"), with("a", "x", "", "x", ""), text("")
	for i, x := range []struct {
		l []api.Node
		e api.Errno
	}{
		{list(el("b", form), kind), api.ErrForm},
		{list(el("b", kind), form), api.ErrKind},
		{list(el("A", kind), form), api.ErrName},
		{list(el("b", el("i", el("u", twice)), name), kind), api.ErrTwice},
		{list(el("b", el("i", el("u")), name), twice), api.ErrName},
		{list(form, kind), api.ErrForm},
		{list(name, form), api.ErrName},
		{list(text("x"), el("b", name), text("y"), text("z")), api.ErrName},
		{list(text("x"), text("y"), el("b", name)), api.ErrForm},
		// What has kids that it should not have is told ahead of these.
		{list(api.Node{Kind: api.Text, Text: "x", Kids: list(form)}, name), api.ErrKind},
		{list(api.Node{Kind: api.Element, Name: "a", Attrs: twice.Attrs, Kids: list(kind)}), api.ErrTwice},
		{list(api.Node{Kind: api.Element, Name: "a", Attrs: []api.Attr{{Name: "x", Value: "\xff"}}, Kids: list(kind)}), api.ErrForm},
	} {
		if e := dom.May(x.l); e != x.e {
			t.Errorf("May of %d: %d, not %d", i, e, x.e)
		}
	}
}

// faults is all errors of nodes that have no attributes, in their order.
func faults(l []api.Node) []api.Errno {
	var out []api.Errno
	for i, n := range l {
		isText, isElement := n.Kind == api.Text, n.Kind == api.Element
		if !isText && !isElement && n.Kind != api.Comment || isElement && n.Text != "" || !isElement && (n.Name != "" || len(n.Kids) > 0) {
			out = append(out, api.ErrKind)
		}
		if isElement && !regexp.MustCompile(`^[a-z][a-z0-9-]*$`).MatchString(n.Name) {
			out = append(out, api.ErrName)
		}
		if isText && (n.Text == "" || i > 0 && l[i-1].Kind == api.Text) {
			out = append(out, api.ErrForm)
		}
		out = append(out, faults(n.Kids)...)
	}
	return out
}

func TestMayOfAllSmallForests(t *testing.T) {
	told := map[api.Errno]int{}
	for _, l := range forests([]api.Node{el("b"), el("B"), text("x"), text(""), note(""), {}}, 4) {
		want := api.OK
		if f := faults(l); len(f) > 0 {
			want = f[0]
		}
		if e := dom.May(l); e != want {
			t.Fatalf("May of %v: %d, not %d", l, e, want)
		}
		told[want]++
	}
	if len(told) != 4 {
		t.Error(told)
	}
}

func TestMayOfManyAttributes(t *testing.T) {
	n := el("b")
	for i := range 200000 {
		n.Attrs = append(n.Attrs, api.Attr{Name: "x" + string(rune(0x4e00+i%20000)) + string(rune('a'+i/20000))})
	}
	if e := dom.May(list(n)); e != api.OK {
		t.Error(e)
	}
	n.Attrs = append(n.Attrs, n.Attrs[0])
	if e := dom.May(list(n)); e != api.ErrTwice {
		t.Error(e)
	}
}

// P3.3

// pairs is nodes that are unlike one another.
func pairs() [][]api.Node {
	return [][]api.Node{
		nil,
		{{}},
		{{}, {}},
		{text("")},
		{text("x")},
		{text("y")},
		{note("x")},
		{{Kind: 9, Text: "x"}},
		{text("x"), text("")},
		{text(""), text("x")},
		{text("x"), text("y")},
		{text("xy")},
		{el("b")},
		{el("")},
		{el("B")},
		{el("b"), el("b")},
		{el("b", el("b"))},
		{el("b", el("b"), el("i"))},
		{el("b", el("i"), el("b"))},
		{el("b", el("b", el("i")))},
		{el("b", text("x"))},
		{el("b", text("x"), text("x"))},
		{el("b"), text("x")},
		{with("b", "x", "1")},
		{with("b", "x", "2")},
		{with("b", "y", "1")},
		{with("b", "x", "1", "x", "1")},
		{with("b", "x", "1", "y", "2")},
		{with("b", "y", "2", "x", "1")},
		{{Kind: api.Element, Name: "b", Text: "x"}},
		{{Kind: api.Text, Text: "x", Name: "b"}},
		{{Kind: api.Text, Text: "x", Attrs: []api.Attr{{}}}},
		{{Kind: api.Text, Text: "x", Kids: list(text("y"))}},
		{{Kind: api.Comment, Text: "x", Kids: list(text("y"))}},
		{text("\xff")},
		{text("\ufffd")},
		odd(),
		chain(9999, el("b")),
		chain(9999, el("i")),
	}
}

func TestSame(t *testing.T) {
	// Each is made twice, so that no memory is shared.
	for i, a := range pairs() {
		for k, b := range pairs() {
			if got := dom.Same(a, b); got != (i == k) {
				t.Errorf("Same of %d and %d: %v", i, k, got)
			}
		}
	}
	// Nil and empty lists are one, at every depth.
	a, b := list(el("b", el("i")), text("x")), list(el("b", el("i")), text("x"))
	b[0].Attrs, b[0].Kids[0].Kids, b[0].Kids[0].Attrs, b[1].Kids, b[1].Attrs = []api.Attr{}, []api.Node{}, []api.Attr{}, []api.Node{}, []api.Attr{}
	if !dom.Same(a, b) || !dom.Same(b, a) || !dom.Same(nil, []api.Node{}) || !dom.Same([]api.Node{}, nil) {
		t.Error("nil and empty")
	}
}

func TestClone(t *testing.T) {
	for i, l := range pairs() {
		if got := dom.Clone(l); !equal(got, l) {
			t.Errorf("Clone of %d: %v", i, got)
		}
	}
}

func TestWeight(t *testing.T) {
	for i, x := range []struct {
		l []api.Node
		n int
	}{
		{nil, 0},
		{[]api.Node{}, 0},
		{list(text("x")), 1},
		{list(text("")), 1},
		{list(api.Node{}), 1},
		{list(note("x"), note("y")), 2},
		{list(el("b")), 1},
		{list(with("b", "x", "")), 2},
		{list(with("b", "x", "", "x", "", "", "")), 4},
		{list(el("b", text("x"), el("i", text("y")))), 4},
		{list(el("b", with("a", "x", "", "y", ""))), 4},
		{list(api.Node{Kind: api.Element, Name: "a", Attrs: []api.Attr{{Name: "id"}}, Kids: list(text("x"))}), 3},
		{odd(), 21},
		{chain(10000, with("a", "id", "1")), 10002},
	} {
		if n := dom.Weight(x.l); n != x.n {
			t.Errorf("Weight of %d: %d, not %d", i, n, x.n)
		}
	}
}

func TestAll(t *testing.T) {
	a := with("a", "x", "1")
	a.Kids = list(text("p"), el("i", note("q"), el("u")), text("r"))
	l := list(text("o"), a, el("b"))
	want := list(text("o"), a, text("p"), a.Kids[1], note("q"), el("u"), text("r"), el("b"))
	if got := dom.All(l); !equal(got, want) {
		t.Errorf("All: %v", got)
	}
	if got := dom.All(nil); len(got) != 0 {
		t.Error(got)
	}
	// Kids of texts and comments are gone through, and what is wrong is told as it stands.
	l = odd()
	want = list(l[0], l[0].Kids[0], l[1].Kids[0], text(""), l[1].Kids[2], text("y"), text("z"), l[0].Kids[1], l[1], l[1].Kids[0], text(""), l[1].Kids[2], text("y"), text("z"))
	if got := dom.All(l); !equal(got, want) {
		t.Errorf("All: %v", got)
	}
	// Of nodes deep in one another each has all its kids.
	for i, n := range dom.All(chain(300, text("x"))) {
		if count(list(n)) != 301-i {
			t.Errorf("All: node %d has %d", i, count(list(n)))
		}
	}
}

func TestMerge(t *testing.T) {
	full := func(s string) api.Node {
		return api.Node{Kind: api.Text, Text: s, Name: "n", Attrs: []api.Attr{{Name: "k", Value: s}}, Kids: list(el("b", text(""), text("x"), text("y")))}
	}
	joined := full("a")
	joined.Text = "abc"
	for i, x := range []struct{ l, want []api.Node }{
		{nil, nil},
		{[]api.Node{}, nil},
		{list(text("a")), list(text("a"))},
		{list(text("")), nil},
		{list(text(""), text(""), text("")), nil},
		{list(text("a"), text("b")), list(text("ab"))},
		{list(text("a"), text("b"), text("c"), text("d")), list(text("abcd"))},
		{list(text("b"), text("a")), list(text("ba"))},
		{list(text("a"), text(""), text("b")), list(text("ab"))},
		{list(text(""), text("a"), text(""), text(""), text("b"), text("")), list(text("ab"))},
		{list(text(""), text("a"), text("b"), el("i"), text(""), text("c")), list(text("ab"), el("i"), text("c"))},
		{list(el("i"), text(""), el("u")), list(el("i"), el("u"))},
		{list(text("a"), note(""), text("b")), list(text("a"), note(""), text("b"))},
		{list(note(""), note("")), list(note(""), note(""))},
		{list(note("a"), note("b")), list(note("a"), note("b"))},
		{list(el(""), el(""), api.Node{}, api.Node{}), list(el(""), el(""), api.Node{}, api.Node{})},
		{list(text("a"), api.Node{Text: "b"}, text("c")), list(text("a"), api.Node{Text: "b"}, text("c"))},
		{list(text("\xc3"), text("\xa9")), list(text("\u00e9"))},
		// Kids are left as they are.
		{list(el("b", text(""), text("a"), text("b"))), list(el("b", text(""), text("a"), text("b")))},
		{list(note(""), el("b", el("i", text("")))), list(note(""), el("b", el("i", text(""))))},
		// The first one's other fields stay, the others' are lost.
		{list(full("a"), full("b"), full("c")), list(joined)},
		{list(full(""), full("a"), full(""), text("b"), text("c")), list(joined)},
		{list(text("a"), full("b")), list(text("ab"))},
		{list(full("")), nil},
	} {
		if got := dom.Merge(x.l); !equal(got, x.want) {
			t.Errorf("Merge of %d: %v", i, got)
		}
	}
}

// merged is what Merge should answer, in two goes as its promise tells it.
func merged(l []api.Node) []api.Node {
	l = slices.DeleteFunc(slices.Clone(l), func(n api.Node) bool { return n.Kind == api.Text && n.Text == "" })
	for i := 1; i < len(l); {
		if l[i-1].Kind == api.Text && l[i].Kind == api.Text {
			l[i-1].Text += l[i].Text
			l = slices.Delete(l, i, i+1)
			continue
		}
		i++
	}
	return l
}

func TestMergeOfAllSmallLists(t *testing.T) {
	for _, l := range forests([]api.Node{el("b"), text("x"), text("y"), text(""), note("")}, 4) {
		got := dom.Merge(l)
		if !equal(got, merged(l)) {
			t.Fatalf("Merge of %v: %v", l, got)
		}
		if !equal(dom.Merge(got), got) {
			t.Fatalf("Merge of %v, merged once more: %v", l, dom.Merge(got))
		}
	}
}

func TestMergeOfManyTexts(t *testing.T) {
	l := make([]api.Node, 300000)
	for i := range l {
		l[i] = text("a text of some bytes")
	}
	if got := dom.Merge(l); len(got) != 1 || len(got[0].Text) != 20*len(l) {
		t.Error(len(got))
	}
}

func TestManyNodesDeepDown(t *testing.T) {
	in := make([]api.Node, 300000)
	for i := range in {
		in[i] = note("")
	}
	l := chain(9000, in...)
	if n := dom.Weight(l); n != 309000 {
		t.Error(n)
	}
	if e := dom.May(l); e != api.OK {
		t.Error(e)
	}
	if !dom.Same(l, dom.Clone(l)) {
		t.Error("a clone is not the same")
	}
}

// P3.4

func TestWeightAndAllAndClone(t *testing.T) {
	shapes := []api.Node{with("a", "x", "1", "x", "2"), text(""), {Kind: api.Comment, Attrs: []api.Attr{{Name: "y"}}}, {}}
	tries := append(pairs()[:len(pairs())-2], forests(shapes, 4)...)
	for _, l := range tries {
		sum := 0
		all := dom.All(l)
		for _, n := range all {
			sum += 1 + len(n.Attrs)
		}
		if dom.Weight(l) != sum || len(all) != count(l) {
			t.Fatalf("Weight of %v: %d, not %d", l, dom.Weight(l), sum)
		}
		c := dom.Clone(l)
		if !dom.Same(l, c) || !dom.Same(c, l) {
			t.Fatalf("a clone of %v is not the same", l)
		}
	}
}

// R4

// spare is nodes with spare room behind each of their lists, which holds nodes and attributes that are to be left alone.
func spare(l []api.Node) []api.Node {
	out := make([]api.Node, 0, len(l)+2)
	for _, n := range l {
		n.Attrs = append(append(make([]api.Attr, 0, len(n.Attrs)+2), n.Attrs...), api.Attr{Name: "spare"}, api.Attr{Value: "spare"})[:len(n.Attrs)]
		n.Kids = spare(n.Kids)
		out = append(out, n)
	}
	return append(out, text("spare"), el("spare"))[:len(l)]
}

// seen is all that nodes hold, their spare room too.
func seen(l []api.Node) []api.Node {
	var out []api.Node
	for _, n := range l[:cap(l)] {
		n.Attrs = slices.Clone(n.Attrs[:cap(n.Attrs)])
		n.Kids = seen(n.Kids)
		out = append(out, n)
	}
	return out
}

// scribble writes over all that nodes hold, their spare room too.
func scribble(l []api.Node) {
	l = l[:cap(l)]
	for i := range l {
		scribble(l[i].Kids)
		a := l[i].Attrs[:cap(l[i].Attrs)]
		for k := range a {
			a[k] = api.Attr{Name: "scribbled", Value: "scribbled"}
		}
		l[i] = api.Node{Kind: 77, Name: "scribbled"}
	}
}

// subject is nodes in which each call has something to do.
func subject() []api.Node {
	b := with("b", "x", "1", "y", "2")
	b.Kids = list(text("p"), text("q"), with("i", "z", "3"), text(""))
	x := text("x")
	x.Attrs, x.Kids = []api.Attr{{Name: "o", Value: "4"}}, list(el("u", text("r")))
	return spare(append(list(text(""), x, text("y"), b, text("u"), text(""), text("v"), note("c")), odd()...))
}

// answers is the calls that answer nodes.
func answers() map[string]func([]api.Node) []api.Node {
	return map[string]func([]api.Node) []api.Node{"Clone": dom.Clone, "All": dom.All, "Merge": dom.Merge}
}

func TestNothingIsChanged(t *testing.T) {
	l, other := subject(), subject()
	kept := seen(l)
	dom.May(l)
	dom.May(list(el("b")))
	dom.Same(l, other)
	dom.Weight(l)
	dom.Value(l[3], "y")
	for _, f := range answers() {
		f(l)
	}
	if !reflect.DeepEqual(seen(l), kept) || !reflect.DeepEqual(seen(other), kept) {
		t.Error("what was handed in has changed")
	}
	good := spare(list(with("b", "x", "1"), text("x"), el("i", text("y"))))
	kept = seen(good)
	if e := dom.May(good); e != api.OK || !reflect.DeepEqual(seen(good), kept) {
		t.Error("May", e)
	}
}

func TestAnswersAreNewMemory(t *testing.T) {
	for name, f := range answers() {
		want := plain(f(subject()))
		// What is handed in does not reach into the answer.
		l := subject()
		got := f(l)
		scribble(l)
		if !equal(got, want) {
			t.Errorf("%s keeps what it was handed", name)
		}
		// Nor does the answer reach into what was handed in, or into another answer.
		l = subject()
		kept, got, twin := seen(l), f(l), f(l)
		scribble(got)
		if !reflect.DeepEqual(seen(l), kept) || !equal(twin, want) {
			t.Errorf("%s tells memory that is not new", name)
		}
		// Nor one part of it into another one.
		for i := range want {
			got = f(subject())
			scribble(got[i : i+1 : i+1])
			if !equal(got[:i], want[:i]) || !equal(got[i+1:], want[i+1:]) {
				t.Errorf("%s tells one list twice, at %d", name, i)
			}
		}
	}
}
