package token_test

import (
	"fmt"
	"reflect"
	"regexp"
	"slices"
	"strconv"
	"strings"
	"testing"

	"strainer/api"
	"strainer/dom"
	"strainer/refs"
	"strainer/token"
	"strainer/utf"
	"strainer/write"
)

// The calls have just these signatures.
var (
	_ func(string) []api.Token      = token.Tokens
	_ func(string) (api.Token, int) = token.Tag
	_ func(string, string) int      = token.Ends
	_ func(string) bool             = token.Starts
)

// begins is a beginning tag, with the names and values of its attributes by turns.
func begins(name string, l ...string) api.Token {
	return api.Token{Kind: api.Begin, Name: name, Attrs: attrs(l...)}
}

// attrs is attributes, names and values by turns.
func attrs(l ...string) []api.Attr {
	var out []api.Attr
	for i := 0; i+1 < len(l); i += 2 {
		out = append(out, api.Attr{Name: l[i], Value: l[i+1]})
	}
	return out
}

// ends is an ending tag.
func ends(name string) api.Token { return api.Token{Kind: api.End, Name: name} }

// chars is characters.
func chars(s string) api.Token { return api.Token{Kind: api.Chars, Text: s} }

// remark is a comment.
func remark(s string) api.Token { return api.Token{Kind: api.Remark, Text: s} }

// list is tokens.
func list(l ...api.Token) []api.Token { return l }

// same holds tokens against each other, all their fields; nil and empty lists are one.
func same(a, b []api.Token) bool {
	return slices.EqualFunc(a, b, func(x, y api.Token) bool {
		attrs := slices.Equal(x.Attrs, y.Attrs)
		x.Attrs, y.Attrs = nil, nil
		return attrs && reflect.DeepEqual(x, y)
	})
}

// show is tokens for a fault's report, which is to stay short.
func show(l ...api.Token) string {
	s := fmt.Sprintf("%+q", fmt.Sprint(l))
	return s[:min(len(s), 300)]
}

// each tells all rows of up to so many of some parts.
func each(parts []string, most int, tell func(string)) {
	tell("")
	if most == 0 {
		return
	}
	for _, p := range parts {
		each(parts, most-1, func(s string) { tell(p + s) })
	}
}

// The chapter again, by other means: beginning tags by a machine that goes byte by byte, all else by expressions.

var (
	ending = regexp.MustCompile(`^</([A-Za-z][A-Za-z0-9-]*)[^>]*>`)
	opened = regexp.MustCompile(`^</[A-Za-z]`)
	marked = regexp.MustCompile(`(?s)^<!--(.*?)(?:-->|$)`)
	barred = regexp.MustCompile(`^<[!?/]([^>]*)(?:>|$)`)
	lead   = regexp.MustCompile(`^<[A-Za-z]`)
	script = regexp.MustCompile("</[sS][cC][rR][iI][pP][tT][\t\n\f />]")
	style  = regexp.MustCompile("</[sS][tT][yY][lL][eE][\t\n\f />]")
)

// machine is what Tag should tell of a text that `<` and a letter begin.
func machine(s string) (api.Token, int) {
	const (
		inName = iota
		ahead
		inAttr
		behindAttr
		aheadValue
		inQuotes
		inValue
	)
	t, state, quote, names, values := api.Token{Kind: api.Begin}, inName, byte(0), []string{}, []string{}
	blank := func(c byte) bool { return c == 9 || c == 10 || c == 12 || c == 32 }
	add := func(l []string, c byte) { l[len(l)-1] += string([]byte{c}) }
	for i := 1; i < len(s); i++ {
		c := s[i]
		low := c
		if c >= 65 && c <= 90 {
			low = c + 32
		}
		if state == inName {
			if low >= 'a' && low <= 'z' || c >= '0' && c <= '9' || c == '-' {
				t.Name += string([]byte{low})
				continue
			}
			state = ahead
		}
		if state == inAttr {
			if !blank(c) && c != '/' && c != '>' && c != '=' {
				add(names, low)
				continue
			}
			state = behindAttr
		}
		if state == behindAttr {
			if c == '=' {
				state = aheadValue
				continue
			}
			if blank(c) {
				continue
			}
			state = ahead
		}
		if state == aheadValue {
			if blank(c) {
				continue
			}
			if c == '"' || c == '\'' {
				state, quote = inQuotes, c
				continue
			}
			state = inValue
		}
		if state == inQuotes {
			if c == quote {
				state = ahead
				continue
			}
			add(values, c)
			continue
		}
		if state == inValue {
			if !blank(c) && c != '>' {
				add(values, c)
				continue
			}
			state = ahead
		}
		if c == '>' {
			for k := range names {
				if slices.Index(names, names[k]) == k {
					t.Attrs = append(t.Attrs, api.Attr{Name: names[k], Value: refs.Decode(values[k])})
				}
			}
			return t, i + 1
		}
		if !blank(c) && c != '/' && c != '=' {
			names, values, state = append(names, string([]byte{low})), append(values, ""), inAttr
		}
	}
	return api.Token{}, len(s)
}

// first is what Tag should tell.
func first(s string) (api.Token, int) {
	if lead.MatchString(s) {
		return machine(s)
	}
	if m := ending.FindStringSubmatch(s); m != nil {
		return ends(utf.Fold(m[1])), len(m[0])
	}
	if opened.MatchString(s) {
		return api.Token{}, len(s)
	}
	if strings.HasPrefix(s, "</>") {
		return api.Token{}, 3
	}
	for _, x := range []*regexp.Regexp{marked, barred} {
		if m := x.FindStringSubmatch(s); m != nil {
			return remark(m[1]), len(m[0])
		}
	}
	return api.Token{}, 0
}

// tokens is what Tokens should tell.
func tokens(s string) []api.Token {
	var out []api.Token
	put := func(s string) {
		if s != "" {
			out = append(out, chars(s))
		}
	}
	row := ""
	for s != "" {
		t, n := first(s)
		if n == 0 {
			row, s = row+s[:1], s[1:]
			continue
		}
		put(refs.Decode(row))
		row, s = "", s[n:]
		if t.Kind != 0 {
			out = append(out, t)
		}
		x := map[string]*regexp.Regexp{"script": script, "style": style}[t.Name]
		if t.Kind != api.Begin || x == nil {
			continue
		}
		n = len(s)
		if m := x.FindStringIndex(s); m != nil {
			n = m[0]
		}
		put(s[:n])
		s = s[n:]
	}
	put(refs.Decode(row))
	return out
}

// ask holds Tokens, Tag and Starts of a text against what they should tell.
func ask(t *testing.T, s string) {
	t.Helper()
	if got, want := token.Tokens(s), tokens(s); !same(got, want) {
		t.Fatalf("Tokens of %q: %s, not %s", s, show(got...), show(want...))
	}
	got, n := token.Tag(s)
	if want, wn := first(s); !same(list(got), list(want)) || n != wn {
		t.Fatalf("Tag of %q: %s, %d, not %s, %d", s, show(got), n, show(want), wn)
	}
	if is := token.Starts(s); is != (n > 0) {
		t.Fatalf("Starts of %q: %v, while its tag takes %d", s, is, n)
	}
}

// example is a text, what Tag tells of it, and all of its tokens.
type example struct {
	s    string
	tag  api.Token
	n    int
	want []api.Token
}

// none is the zero token.
func none() api.Token { return api.Token{} }

// whole is a text that one tag, or one comment, is.
func whole(s string, t api.Token) example {
	return example{s, t, len(s), list(t)}
}

// plain is a text that no tag begins.
func plain(s string, want ...api.Token) example {
	return example{s, none(), 0, want}
}

// lost is a text that is a tag that does not end.
func lost(s string) example {
	return example{s, none(), len(s), nil}
}

// characters is texts without tags, or with some behind.
func characters() []example {
	return []example{
		plain(""),
		plain("a", chars("a")),
		plain("a&lt;b", chars("a<b")),
		plain("&#65;&no;&amp;lt;", chars("A&no;&lt;")),
		plain(" \t\n\f\u00e9\u20ac\U0001f600\ufffd", chars(" \t\n\f\u00e9\u20ac\U0001f600\ufffd")),
		plain(">\"'=/-->", chars(">\"'=/-->")),
		plain("<", chars("<")),
		plain("<<", chars("<<")),
		plain("a<", chars("a<")),
		plain("< a>", chars("< a>")),
		plain("<1>", chars("<1>")),
		plain("<->", chars("<->")),
		plain("<>", chars("<>")),
		plain("<=", chars("<=")),
		plain("<&lt;b>", chars("<<b>")),
		plain("&lt;b>", chars("<b>")),
		plain("<\u00e9>", chars("<\u00e9>")),
		plain("<\u212a>", chars("<\u212a>")),
		plain("<\n/a>", chars("<\n/a>")),
		plain("<@<[<`<{", chars("<@<[<`<{")),
		plain("1 < 2 <3", chars("1 < 2 <3")),
		plain("<<b>", chars("<"), begins("b")),
		plain("1 < 2<b>3 <4</b>", chars("1 < 2"), begins("b"), chars("3 <4"), ends("b")),
		plain("x<b", chars("x")),
		plain("x</", chars("x"), remark("")),
		plain("x</>y", chars("x"), chars("y")),
		plain("x</></>y", chars("x"), chars("y")),
		plain("x<!y>z", chars("x"), remark("y"), chars("z")),
		plain("&l</>t;", chars("&l"), chars("t;")),
		plain("a&amp<b>;", chars("a&amp"), begins("b"), chars(";")),
	}
}

// beginnings is beginning tags that end, alone or with something behind.
func beginnings() []example {
	return []example{
		whole("<b>", begins("b")),
		whole("<B>", begins("b")),
		whole("<ABcZ>", begins("abcz")),
		whole("<h1>", begins("h1")),
		whole("<x-1>", begins("x-1")),
		whole("<a-->", begins("a--")),
		whole("<a0-9-Z>", begins("a0-9-z")),
		whole("<"+strings.Repeat("aB", 5000)+">", begins(strings.Repeat("ab", 5000))),
		whole("<br>", begins("br")),
		whole("<br/>", begins("br")),
		whole("<br / >", begins("br")),
		whole("<b \t\n\f/=>", begins("b")),
		{"<b>x", begins("b"), 3, list(begins("b"), chars("x"))},
		{"<b>>", begins("b"), 3, list(begins("b"), chars(">"))},
		{"<b><i>", begins("b"), 3, list(begins("b"), begins("i"))},
		// What no name goes on with begins an attribute.
		whole("<a_b>", begins("a", "_b", "")),
		whole("<a:b=1>", begins("a", ":b", "1")),
		whole("<a\u00e9>", begins("a", "\u00e9", "")),
		whole("<a\u017f>", begins("a", "\u017f", "")),
		whole("<a\"b\">", begins("a", "\"b\"", "")),
		whole("<a<b>", begins("a", "<b", "")),
		whole("<a@[`{>", begins("a", "@[`{", "")),
		whole("<a&lt;>", begins("a", "&lt;", "")),
		// What is passed over ahead of an attribute.
		whole("<a x>", begins("a", "x", "")),
		whole("<a/x>", begins("a", "x", "")),
		whole("<a=x>", begins("a", "x", "")),
		whole("<a =b=c>", begins("a", "b", "c")),
		whole("<a \t\n\f/=/= x>", begins("a", "x", "")),
		whole("<a x/y>", begins("a", "x", "", "y", "")),
		whole("<a x/=y>", begins("a", "x", "", "y", "")),
		whole("<a x /=y>", begins("a", "x", "", "y", "")),
		whole("<a x\vy>", begins("a", "x\vy", "")),
		whole("<a\u00a0x>", begins("a", "\u00a0x", "")),
	}
}

// attributes is beginning tags with attributes of each form.
func attributes() []example {
	return []example{
		whole("<A b=1 C>", begins("a", "b", "1", "c", "")),
		whole("<a x y  z>", begins("a", "x", "", "y", "", "z", "")),
		whole("<a b a>", begins("a", "b", "", "a", "")),
		whole("<a Data-X\u00c9=Y>", begins("a", "data-x\u00c9", "Y")),
		whole("<a \"=1 'b'=2 <=3 &amp;=4>", begins("a", "\"", "1", "'b'", "2", "<", "3", "&amp;", "4")),
		// With = and nothing behind it.
		{"<a b=>c", begins("a", "b", ""), 6, list(begins("a", "b", ""), chars("c"))},
		{"<a b= \t\n\f>c", begins("a", "b", ""), 10, list(begins("a", "b", ""), chars("c"))},
		whole("<a b = >", begins("a", "b", "")),
		whole("<a b=\"\">", begins("a", "b", "")),
		whole("<a b=''c>", begins("a", "b", "", "c", "")),
		whole("<a b =\n\"x\">", begins("a", "b", "x")),
		whole("<a b \t\n\f= \t\n\fx>", begins("a", "b", "x")),
		// In quotes.
		whole("<a href=x id='y z' T=\"&quot;\">", begins("a", "href", "x", "id", "y z", "t", "\"")),
		whole("<a b=\"c'd\" e='f\"g'>", begins("a", "b", "c'd", "e", "f\"g")),
		whole("<a b=\"<c>/= \n\">", begins("a", "b", "<c>/= \n")),
		whole("<a b='</a>'>", begins("a", "b", "</a>")),
		whole("<a b=\"C\"D=E>", begins("a", "b", "C", "d", "E")),
		whole("<a b=\"c\"\"d\">", begins("a", "b", "c", "\"d\"", "")),
		whole("<a b=\"c\"=d>", begins("a", "b", "c", "d", "")),
		whole("<a b='c'/>", begins("a", "b", "c")),
		// Without quotes.
		whole("<a x = 1/>", begins("a", "x", "1/")),
		whole("<a x=/>", begins("a", "x", "/")),
		whole("<a x=a/b/ y>", begins("a", "x", "a/b/", "y", "")),
		whole("<a x==>", begins("a", "x", "=")),
		whole("<a x=b=c=\"d'e<f&>", begins("a", "x", "b=c=\"d'e<f&")),
		whole("<a x=b\ny=c\tz=d\fu=e>", begins("a", "x", "b", "y", "c", "z", "d", "u", "e")),
		whole("<a x=b\u00a0c\vd>", begins("a", "x", "b\u00a0c\vd")),
		whole("<a x=\u20ac\U0001f600>", begins("a", "x", "\u20ac\U0001f600")),
		// References: in values of each form, but not in names.
		whole("<a x=&lt;b&gt;&no;>", begins("a", "x", "<b>&no;")),
		whole("<a x='&#39;&amp;lt;' y=\"&quot;&#34;\">", begins("a", "x", "'&lt;", "y", "\"\"")),
		whole("<a x=&#32;&#62; y>", begins("a", "x", " >", "y", "")),
		whole("<a x=&quot;y z&quot;>", begins("a", "x", "\"y", "z&quot;", "")),
		whole("<a x&lt;=1>", begins("a", "x&lt;", "1")),
		whole("<a x=&l y=t;>", begins("a", "x", "&l", "y", "t;")),
		// Of one name the first one counts.
		whole("<a x X=1 y>", begins("a", "x", "", "y", "")),
		whole("<a x=1 x=2>", begins("a", "x", "1")),
		whole("<a X=1 y=2 x=3 Y=4 z=5 x>", begins("a", "x", "1", "y", "2", "z", "5")),
		whole("<a x='' x='1'>", begins("a", "x", "")),
		whole("<a a>", begins("a", "a", "")),
		{"<a x=1><a x=2>", begins("a", "x", "1"), 7, list(begins("a", "x", "1"), begins("a", "x", "2"))},
	}
}

// endings is ending tags, and what does not end.
func endings() []example {
	return []example{
		whole("</b>", ends("b")),
		whole("</B>", ends("b")),
		whole("</X-1Y>", ends("x-1y")),
		whole("</br>", ends("br")),
		whole("</script>", ends("script")),
		whole("</a \t\n\f>", ends("a")),
		whole("</a/>", ends("a")),
		whole("</a x=1 y>", ends("a")),
		whole("</a<b>", ends("a")),
		whole("</a_b\u00e9>", ends("a")),
		{"</a b='>'>", ends("a"), 8, list(ends("a"), chars("'>"))},
		{"</a>>", ends("a"), 4, list(ends("a"), chars(">"))},
		{"</a></b>x", ends("a"), 4, list(ends("a"), ends("b"), chars("x"))},
		// Tags that do not end take all that is left.
		lost("<a"),
		lost("<Script"),
		lost("<a "),
		lost("<a/"),
		lost("<a="),
		lost("<a x"),
		lost("<a x "),
		lost("<a x="),
		lost("<a x= "),
		lost("<a x=y"),
		lost("<a x=y "),
		lost("<a x=\""),
		lost("<a x='"),
		lost("<a x=\"y\""),
		lost("<a x=\"y>z</a>'"),
		lost("<a x='y>z<b>\""),
		lost("<a x=1 y=\"2'><b>x</b>"),
		lost("<a <b </b "),
		lost("</a"),
		lost("</A b=c"),
		lost("</a <b </c "),
		lost("</script"),
		{"<b><a x='", begins("b"), 3, list(begins("b"))},
		{"</b></a", ends("b"), 4, list(ends("b"))},
		{"<b></a \"<i", begins("b"), 3, list(begins("b"))},
		// </> is nothing, but it takes its bytes.
		{"</>", none(), 3, nil},
		{"</>z", none(), 3, list(chars("z"))},
		{"</></>", none(), 3, nil},
		{"</><b>", none(), 3, list(begins("b"))},
	}
}

// comments is comments of each kind, ended and not.
func comments() []example {
	return []example{
		whole("<!---->", remark("")),
		whole("<!--a-->", remark("a")),
		whole("<!-- a\n<b>&lt; -->", remark(" a\n<b>&lt; ")),
		whole("<!----->", remark("-")),
		whole("<!------>", remark("--")),
		whole("<!-->-->", remark(">")),
		whole("<!--->-->", remark("->")),
		whole("<!--a->b--c-- >-->", remark("a->b--c-- >")),
		whole("<!--<!--a-->", remark("<!--a")),
		whole("<!--\u20ac-->", remark("\u20ac")),
		{"<!--a-->b", remark("a"), 8, list(remark("a"), chars("b"))},
		{"<!--a-->-->", remark("a"), 8, list(remark("a"), chars("-->"))},
		{"<!--a--><!--b-->", remark("a"), 8, list(remark("a"), remark("b"))},
		// Not ended: all that is left.
		whole("<!--", remark("")),
		whole("<!-->", remark(">")),
		whole("<!--->", remark("->")),
		whole("<!--a", remark("a")),
		whole("<!--a-", remark("a-")),
		whole("<!--a--", remark("a--")),
		whole("<!--a--!><b>x", remark("a--!><b>x")),
		whole("<!-- -- ><b></b>", remark(" -- ><b></b>")),
		// <! and <?: up to a >.
		whole("<!>", remark("")),
		whole("<?>", remark("")),
		whole("<!x>", remark("x")),
		whole("<?x?>", remark("x?")),
		whole("<!->", remark("-")),
		whole("<!- -->", remark("- --")),
		whole("<?--a-->", remark("--a--")),
		whole("<!DOCTYPE \"a&lt;'<b\n>", remark("DOCTYPE \"a&lt;'<b\n")),
		{"<!x>y>", remark("x"), 4, list(remark("x"), chars("y>"))},
		{"<?x>y", remark("x"), 4, list(remark("x"), chars("y"))},
		{"<!x-->y", remark("x--"), 6, list(remark("x--"), chars("y"))},
		whole("<!", remark("")),
		whole("<?", remark("")),
		whole("<!-", remark("-")),
		whole("<!x", remark("x")),
		whole("<?x", remark("x")),
		whole("<?<b", remark("<b")),
		// </ that is no ending tag.
		whole("</", remark("")),
		whole("</ ", remark(" ")),
		whole("</ >", remark(" ")),
		whole("</ x>", remark(" x")),
		whole("</1>", remark("1")),
		whole("</->", remark("-")),
		whole("<//>", remark("/")),
		whole("</\n/a&lt;<b", remark("\n/a&lt;<b")),
		whole("</\u00e9>", remark("\u00e9")),
		whole("</<b>", remark("<b")),
		whole("</@>", remark("@")),
		whole("</[", remark("[")),
		{"</ x>y", remark(" x"), 5, list(remark(" x"), chars("y"))},
		{"</!--a-->", remark("!--a--"), 9, list(remark("!--a--"))},
	}
}

// raws is raw elements.
func raws() []example {
	s, e := begins("script"), ends("script")
	return []example{
		{"<script></script>", s, 8, list(s, e)},
		{"<script>", s, 8, list(s)},
		{"<script>x</script>", s, 8, list(s, chars("x"), e)},
		{"<script>a<b>&lt;</Script >c", s, 8, list(s, chars("a<b>&lt;"), e, chars("c"))},
		{"<SCRIPT>a</sCRIPT\n>&lt;", s, 8, list(s, chars("a"), e, chars("<"))},
		{"<script/>x</script>", s, 9, list(s, chars("x"), e)},
		{"<script a='>' B>x</script>", begins("script", "a", ">", "b", ""), 16, list(begins("script", "a", ">", "b", ""), chars("x"), e)},
		{"<style>a</style>", begins("style"), 7, list(begins("style"), chars("a"), ends("style"))},
		// It ends with a blank, / or > behind the name.
		{"<script>x</script/a>y", s, 8, list(s, chars("x"), e, chars("y"))},
		{"<script>x</script\t\f>y", s, 8, list(s, chars("x"), e, chars("y"))},
		{"<script>x</script a='>'>y", s, 8, list(s, chars("x"), e, chars("'>y"))},
		{"<script>x</script y", s, 8, list(s, chars("x"))},
		{"<script></script/", s, 8, list(s)},
		{"<script></script ", s, 8, list(s)},
		// Longer names, shorter ones, others.
		{"<style></styles></style>", begins("style"), 7, list(begins("style"), chars("</styles>"), ends("style"))},
		{"<style></style-></style1></styl></style>", begins("style"), 7, list(begins("style"), chars("</style-></style1></styl>"), ends("style"))},
		{"<script></style></b></></ script></script>", s, 8, list(s, chars("</style></b></></ script>"), e)},
		{"<script><script></script></script>", s, 8, list(s, chars("<script>"), e, e)},
		{"<script></script</script>", s, 8, list(s, chars("</script"), e)},
		{"<script></script=></script\v></script\u00a0></script\"></script>", s, 8, list(s, chars("</script=></script\v></script\u00a0></script\">"), e)},
		{"<script><</script>", s, 8, list(s, chars("<"), e)},
		{"<script></</script>", s, 8, list(s, chars("</"), e)},
		{"<style></\u017ftyle></style>", begins("style"), 7, list(begins("style"), chars("</\u017ftyle>"), ends("style"))},
		// What else is something is characters there.
		{"<script><!--</script>-->", s, 8, list(s, chars("<!--"), e, chars("-->"))},
		{"<script><a b='</script>'>", s, 8, list(s, chars("<a b='"), e, chars("'>"))},
		{"<script>&#65;&amp;<!a></b></script>", s, 8, list(s, chars("&#65;&amp;<!a></b>"), e)},
		// Without an end: all that is left.
		{"<script>x<b>&lt;", s, 8, list(s, chars("x<b>&lt;"))},
		{"<script>x</script", s, 8, list(s, chars("x</script"))},
		{"<script></SCRIPT", s, 8, list(s, chars("</SCRIPT"))},
		{"<script></scrip", s, 8, list(s, chars("</scrip"))},
		{"<script></scripts>", s, 8, list(s, chars("</scripts>"))},
		{"<style></script>", begins("style"), 7, list(begins("style"), chars("</script>"))},
		// One behind the other, and elements that are not raw.
		{"<script>1</script><style>2</style>3", s, 8, list(s, chars("1"), e, begins("style"), chars("2"), ends("style"), chars("3"))},
		{"<scripts>&lt;<b></scripts>", begins("scripts"), 9, list(begins("scripts"), chars("<"), begins("b"), ends("scripts"))},
		{"<script-x>&lt;</script-x>", begins("script-x"), 10, list(begins("script-x"), chars("<"), ends("script-x"))},
		{"<title>&lt;<b></title>", begins("title"), 7, list(begins("title"), chars("<"), begins("b"), ends("title"))},
		{"<textarea><b></textarea>", begins("textarea"), 10, list(begins("textarea"), begins("b"), ends("textarea"))},
		{"</script>&lt;<b>", e, 9, list(e, chars("<"), begins("b"))},
		lost("<script"),
		lost("<script a='></script>"),
	}
}

// examples is texts of each kind that the chapter names.
func examples() []example {
	return slices.Concat(characters(), beginnings(), attributes(), endings(), comments(), raws())
}

// P5.1

func TestTokens(t *testing.T) {
	for _, x := range examples() {
		if !utf.Is(x.s) {
			t.Errorf("%q is not right", x.s)
		}
		if got := token.Tokens(x.s); !same(got, x.want) {
			t.Errorf("Tokens of %.100q: %s, not %s", x.s, show(got...), show(x.want...))
		}
	}
	s := "<A b=1 C>x</a >"
	if got, want := token.Tokens(s), list(begins("a", "b", "1", "c", ""), chars("x"), ends("a")); !same(got, want) {
		t.Errorf("Tokens of %q: %s, not %s", s, show(got...), show(want...))
	}
}

func TestTokensBehindOthers(t *testing.T) {
	// What a text's tokens are does not hang on what ended ahead of it.
	for _, x := range examples() {
		for _, ahead := range []example{whole("<b>", begins("b")), whole("</b>", ends("b")), whole("<!>", remark("")), {"</>", none(), 3, nil}} {
			s := ahead.s + x.s
			if got, want := token.Tokens(s), slices.Concat(ahead.want, x.want); !same(got, want) {
				t.Errorf("Tokens of %.100q: %s, not %s", s, show(got...), show(want...))
			}
		}
	}
}

func TestTokensOfMany(t *testing.T) {
	each(strings.Split("<>/!-?aZ1 =\"&", ""), 5, func(s string) { ask(t, s) })
	each(strings.Split(" \n/>='\"xX<&", ""), 4, func(s string) {
		ask(t, "<a"+s)
		ask(t, "<a x"+s+">")
		ask(t, "<a x=y "+s+"y>z")
	})
	each([]string{" ", "/", "=", "x", "Y='1'", "y=\"2\"", "&lt;", "=&#65;", ">", "\u00e9", "<"}, 5, func(s string) { ask(t, "<A "+s+">") })
	each([]string{"<!--", "<!", "<?", "</", "-", "-->", ">", "x", "<b>"}, 5, func(s string) { ask(t, s) })
}

func TestTokensOfRawElements(t *testing.T) {
	parts := []string{"</script", "</SCRIPT", "script", "<script>", "<", "/", ">", " ", "x", "\u017f", "<!--", "&lt;"}
	each(parts, 4, func(s string) {
		ask(t, "<script>"+s)
		ask(t, s+"</script>&lt;")
	})
	each([]string{"</style", "s", ">", "</", "\f", "<STYLE a>", "</script>", "&amp;"}, 5, func(s string) { ask(t, "<style>"+s) })
}

func TestLongTexts(t *testing.T) {
	const many = 100000
	// Each of these takes long, if what is left is gone through again and again.
	for _, x := range []struct {
		part string
		want []api.Token
	}{
		{"<b>x</b>", list(begins("b"), chars("x"), ends("b"))},
		{"<script>x</script>", list(begins("script"), chars("x"), ends("script"))},
		{"<script></script>", list(begins("script"), ends("script"))},
		{"<!--x-->", list(remark("x"))},
		{"</>", nil},
		{"</1>", list(remark("1"))},
		{"<a x=\">\" x='>'>", list(begins("a", "x", ">"))},
	} {
		got := token.Tokens(strings.Repeat(x.part, many))
		if len(got) != many*len(x.want) || len(got) > 0 && !same(got[len(got)-len(x.want):], x.want) {
			t.Errorf("Tokens of many %q: %d", x.part, len(got))
		}
	}
	for _, x := range []struct {
		ahead, part string
		want        []api.Token
	}{
		{"", "<", list(chars(strings.Repeat("<", many)))},
		{"", "< ", list(chars(strings.Repeat("< ", many)))},
		{"", "<a ", nil},
		{"", "<a x='", nil},
		{"", "</a ", nil},
		{"<b>", "<a", list(begins("b"))},
		{"<!--", "<!--", list(remark(strings.Repeat("<!--", many)))},
		{"<!--", "--!>", list(remark(strings.Repeat("--!>", many)))},
		{"<!", "<!", list(remark(strings.Repeat("<!", many)))},
		{"<script>", "</script", list(begins("script"), chars(strings.Repeat("</script", many)))},
		{"<script>", "</", list(begins("script"), chars(strings.Repeat("</", many)))},
		{"<script>", "<script>", list(begins("script"), chars(strings.Repeat("<script>", many)))},
		{"<a", " x=1 x", nil},
		{"<a x", " ", nil},
		{"<a x=", "&amp;", nil},
	} {
		if got := token.Tokens(x.ahead + strings.Repeat(x.part, many)); !same(got, x.want) {
			t.Errorf("Tokens of %q and many %q: %d", x.ahead, x.part, len(got))
		}
	}
}

func TestManyAttributes(t *testing.T) {
	var s strings.Builder
	want := begins("a")
	for i := range 50000 {
		name := "x" + strconv.Itoa(i)
		s.WriteString(" " + name + "=1 " + strings.ToUpper(name) + "=2")
		want.Attrs = append(want.Attrs, api.Attr{Name: name, Value: "1"})
	}
	if got := token.Tokens("<a" + s.String() + ">"); !same(got, list(want)) {
		t.Error("many attributes are told otherwise")
	}
}

// P5.2

func TestTag(t *testing.T) {
	for _, x := range examples() {
		if got, n := token.Tag(x.s); !same(list(got), list(x.tag)) || n != x.n {
			t.Errorf("Tag of %.100q: %s, %d, not %s, %d", x.s, show(got), n, show(x.tag), x.n)
		}
	}
}

func TestStarts(t *testing.T) {
	for _, x := range examples() {
		if got := token.Starts(x.s); got != (x.n > 0) {
			t.Errorf("Starts of %.100q: %v", x.s, got)
		}
		if token.Starts(" " + x.s) {
			t.Errorf("Starts of a blank and %.100q", x.s)
		}
	}
	for s, want := range map[string]bool{
		"": false, "<": false, "a": false, "/": false, "</": true, "<!": true, "<?": true, "<a": true, "<Z": true,
		"x<b>": false, "<<b>": false, "< b>": false, "<>": false, "<->": false, "<#": false, "&lt;b>": false, "\u00e9": false, "<\u00e9": false,
	} {
		if token.Starts(s) != want {
			t.Errorf("Starts of %q: %v", s, !want)
		}
	}
	is := regexp.MustCompile(`^<[A-Za-z/!?]$`)
	for c := range 128 {
		s := "<" + string(rune(c))
		for _, x := range []string{s, s + ">", s + "a"} {
			if got := token.Starts(x); got != is.MatchString(s) {
				t.Errorf("Starts of %q: %v", x, got)
			}
		}
	}
}

func TestEnds(t *testing.T) {
	for _, x := range []struct {
		s, name string
		want    int
	}{
		{"", "script", -1},
		{"", "", -1},
		{"abc", "script", -1},
		{"</script>", "script", 0},
		{"a</script>", "script", 1},
		{"\u20ac</script>", "script", 3},
		{"</SCRIPT/", "script", 0},
		{"</sCript x", "script", 0},
		{"</script\t", "script", 0},
		{"</script\n", "script", 0},
		{"</script\f", "script", 0},
		{"</script ", "script", 0},
		// No end behind the name, or another one.
		{"</script", "script", -1},
		{"a</script", "script", -1},
		{"</scrip>", "script", -1},
		{"</scripts>", "script", -1},
		{"</script->", "script", -1},
		{"</script=>", "script", -1},
		{"</script\v>", "script", -1},
		{"</script\u00a0>", "script", -1},
		{"</script&", "script", -1},
		{"</script<", "script", -1},
		{"< /script>", "script", -1},
		{"</ script>", "script", -1},
		{"<script>", "script", -1},
		{"/script>", "script", -1},
		{"<//script>", "script", -1},
		{"<\\script>", "script", -1},
		{"</style>", "script", -1},
		{"</\u017fcript>", "script", -1},
		// The first one of several.
		{"</script></script>", "script", 0},
		{"</script</script>", "script", 8},
		{"</scripts></style></script>x</script>", "script", 18},
		{"<</script>", "script", 1},
		{"</</script>", "script", 2},
		{"<!--</script>-->", "script", 4},
		{"<a b='</script>'>", "script", 6},
		// Whichever name it is; it is not folded.
		{"</style>", "style", 0},
		{"</b>", "b", 0},
		{"</B>", "b", 0},
		{"</bb></b>", "b", 5},
		{"</b>", "B", -1},
		{"</B>", "B", -1},
		{"</SCRIPT>", "SCRIPT", -1},
		{"</script>", "sCript", -1},
		{"</x-1>", "x-1", 0},
		{"</\u00e9>", "\u00e9", 0},
		{"</\u00c9>", "\u00e9", -1},
		{"</>", "", 0},
		{"x</ ", "", 1},
		{"<//", "", 0},
		{"</", "", -1},
		{"</b>", "", -1},
		{"</a b>", "a b", 0},
		{"</a b>", "a", 0},
		{"</a>>", "a>", 0},
		{"</a/>", "a/", 0},
		{"</a>", "a>", -1},
		{"</</</>", "</", 2},
		{"</</b</b>", "</b", -1},
		{"</</b</</b>", "</b", 5},
	} {
		if got := token.Ends(x.s, x.name); got != x.want {
			t.Errorf("Ends of %q and %q: %d, not %d", x.s, x.name, got, x.want)
		}
	}
}

// place is what Ends should tell: each place is asked, from the first one on.
func place(s, name string) int {
	for i := range len(s) {
		rest, is := strings.CutPrefix(utf.Fold(s[i:]), "</"+name)
		if is && rest != "" && strings.Contains("\t\n\f />", rest[:1]) {
			return i
		}
	}
	return -1
}

func TestEndsOfMany(t *testing.T) {
	names := []string{"script", "a", "ab", "", "B", "a/", "</a", "\u00e9", ">"}
	each([]string{"<", "/", ">", "a", "B", "script", "\u00e9", " ", "\v"}, 5, func(s string) {
		for _, name := range names {
			if got, want := token.Ends(s, name), place(s, name); got != want {
				t.Fatalf("Ends of %q and %q: %d, not %d", s, name, got, want)
			}
		}
	})
	for c := range 128 {
		s := "x</a" + string(rune(c))
		if got, want := token.Ends(s, "a"), place(s, "a"); got != want {
			t.Errorf("Ends of %q: %d, not %d", s, got, want)
		}
	}
}

// P5.3

// el is an element with attributes, names and values by turns.
func el(name string, l ...string) api.Node {
	return api.Node{Kind: api.Element, Name: name, Attrs: attrs(l...)}
}

// shapes is nodes that written are told as they were: elements of each sort, texts, comments.
func shapes() []api.Node {
	raw, other := el("script", "a", "</script>"), el("style")
	raw.Kids = []api.Node{{Kind: api.Text, Text: "a<b>&lt;</scripts></style></script"}}
	other.Kids = []api.Node{{Kind: api.Text, Text: "</ style><!--"}}
	out := []api.Node{raw, other, el("script"), el("b"), el("x-1-", "id", "", "\"'", "\"'", "<&lt;", "<>&=/ \n\t\u20ac"), el("br"), el("img", "src", "x&y/", "\u00e9", "&amp;quot;")}
	for _, s := range []string{"", "-", "--", ">", "->", "<!--", "<b>&lt;x", "--!> -- >", "\u20ac"} {
		out = append(out, api.Node{Kind: api.Comment, Text: s})
	}
	for _, s := range []string{"x", "<b>", "&lt;&amp;amp;", "</script>", " \n\"'=/>", "<!---->", "\ufffd\u00a0"} {
		out = append(out, api.Node{Kind: api.Text, Text: s})
	}
	return out
}

// told is nodes' tags, one by one.
func told(l []api.Node) []api.Token {
	var out []api.Token
	for _, n := range l {
		switch n.Kind {
		case api.Text:
			out = append(out, chars(n.Text))
		case api.Comment:
			out = append(out, remark(n.Text))
		case api.Element:
			out = append(out, api.Token{Kind: api.Begin, Name: n.Name, Attrs: n.Attrs})
			if !dom.Void(n.Name) {
				out = append(append(out, told(n.Kids)...), ends(n.Name))
			}
		}
	}
	return out
}

// hold asks that nodes, written, are told as their tags.
func hold(t *testing.T, l []api.Node) {
	t.Helper()
	if e := dom.May(l); e != api.OK {
		t.Fatalf("%v may not be: %d", l, e)
	}
	s := write.Text(l)
	if got, want := token.Tokens(s), told(l); !same(got, want) {
		t.Fatalf("Tokens of %.200q: %s, not %s", s, show(got...), show(want...))
	}
}

func TestWrittenNodesAreToldAsTheirTags(t *testing.T) {
	wrap := func(name string, l ...api.Node) api.Node {
		n := el(name, "k", name)
		n.Kids = l
		return n
	}
	text := func(n api.Node) bool { return n.Kind == api.Text }
	hold(t, nil)
	for _, a := range shapes() {
		hold(t, []api.Node{a})
		hold(t, []api.Node{wrap("p", wrap("p", a), el("hr"), a)})
		for _, b := range shapes() {
			if text(a) && text(b) {
				continue
			}
			hold(t, []api.Node{a, b})
			for _, c := range shapes() {
				if text(b) && text(c) {
					continue
				}
				hold(t, []api.Node{wrap("p", a, b), c})
				hold(t, []api.Node{wrap("li", wrap("i", a), b, c), el("br")})
			}
		}
	}
	deep := shapes()[:5]
	for range 3000 {
		deep = []api.Node{wrap("b", deep...)}
	}
	hold(t, deep)
}

func TestWrittenTagsAreTold(t *testing.T) {
	for _, n := range shapes() {
		open, close := write.Open(n), write.Close(n)
		if n.Kind != api.Element {
			continue
		}
		want := api.Token{Kind: api.Begin, Name: n.Name, Attrs: n.Attrs}
		if got, k := token.Tag(open); !same(list(got), list(want)) || k != len(open) {
			t.Errorf("Tag of %q: %s, %d", open, show(got), k)
		}
		if dom.Void(n.Name) {
			continue
		}
		if got, k := token.Tag(close + "x"); !same(list(got), list(ends(n.Name))) || k != len(close) {
			t.Errorf("Tag of %q: %s, %d", close, show(got), k)
		}
	}
}

// R4, R5

func TestAnswersAreNew(t *testing.T) {
	s := "<a x=1 y=2>&lt;<b z=3><!--c--></b><script u>v</script>"
	want := tokens(s)
	got := token.Tokens(s)
	for i := range got {
		// Neither the lists of one answer nor those of two share anything, their spare room neither.
		l := got[i].Attrs
		l = l[:cap(l)]
		for k := range l {
			l[k] = api.Attr{Name: "scribbled", Value: "scribbled"}
		}
		if !same(got[i+1:], want[i+1:]) {
			t.Errorf("writing into the token %d changed another one", i)
		}
	}
	if again := token.Tokens(s); !same(again, want) {
		t.Errorf("Tokens of %q, again: %s", s, show(again...))
	}
	one, _ := token.Tag(s)
	one.Attrs[0].Value = "scribbled"
	if again, n := token.Tag(s); !same(list(again), want[:1]) || n != 11 {
		t.Errorf("Tag of %q, again: %s, %d", s, show(again), n)
	}
}

// No call panics or goes on without end, whatever bytes it is given, though nothing is promised of texts that are not right.
func TestTextsThatAreNotRight(t *testing.T) {
	each([]string{"<", "/", "a", ">", "=", "\"", "\xff", "\xe2\x82", "\x00", "\r", "script>", "!--"}, 4, func(s string) {
		token.Tokens(s)
		token.Tag("<a " + s)
		token.Starts(s)
		token.Ends(s, "a")
		token.Ends(s, "\xff")
	})
}
