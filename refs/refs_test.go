package refs_test

import (
	"maps"
	"regexp"
	"slices"
	"strconv"
	"strings"
	"testing"

	"strainer/refs"
	"strainer/utf"
)

// The calls have just these signatures.
var (
	_ func(string) (rune, bool) = refs.Name
	_ func(string) (rune, int)  = refs.One
	_ func(string) string       = refs.Decode
	_ func(string, bool) string = refs.Escape
)

// chapter is the names of the chapter, with their characters.
var chapter = map[string]rune{"amp": '&', "lt": '<', "gt": '>', "quot": '"', "apos": '\'', "nbsp": '\u00a0', "copy": '\u00a9', "reg": '\u00ae', "deg": '\u00b0', "middot": '\u00b7', "times": '\u00d7', "ndash": '\u2013', "mdash": '\u2014', "hellip": '\u2026', "euro": '\u20ac'}

// reference is the chapter's form of a reference. It shares nothing with the program's own way through the bytes.
var reference = regexp.MustCompile(`^&(?:#([0-9]{1,7})|#[xX]([0-9a-fA-F]{1,6})|(` + strings.Join(slices.Sorted(maps.Keys(chapter)), "|") + `));`)

// stands is what a reference of a number stands for.
func stands(number int64) rune {
	if number == 0 || number == 13 || number >= 55296 && number <= 57343 || number > 1114111 {
		return 65533
	}
	return rune(number)
}

// first is what One should answer.
func first(s string) (rune, int) {
	m := reference.FindStringSubmatch(s)
	if m == nil {
		return 0, 0
	}
	if m[3] != "" {
		return chapter[m[3]], len(m[0])
	}
	base := 10
	if m[2] != "" {
		base = 16
	}
	number, err := strconv.ParseInt(m[1]+m[2], base, 64)
	if err != nil {
		panic(err)
	}
	return stands(number), len(m[0])
}

// decoded is what Decode should answer.
func decoded(s string) string {
	var out []byte
	for len(s) > 0 {
		if r, n := first(s); n > 0 {
			out, s = append(out, string(r)...), s[n:]
			continue
		}
		out, s = append(out, s[0]), s[1:]
	}
	return string(out)
}

// each tells all rows of up to so many of some parts.
func each(parts []string, most int, tell func(string)) {
	tell("")
	if most == 0 {
		return
	}
	for _, p := range parts {
		each(parts, most-1, func(s string) { tell(p + s) })
	}
}

// ask holds One and Decode of a text against what they should answer.
func ask(t *testing.T, s string) {
	t.Helper()
	r, n := refs.One(s)
	if wr, wn := first(s); r != wr || n != wn {
		t.Fatalf("One of %q: %d, %d, not %d, %d", s, r, n, wr, wn)
	}
	if got, want := refs.Decode(s), decoded(s); got != want {
		t.Fatalf("Decode of %q: %q, not %q", s, got, want)
	}
}

// P2.1

func TestName(t *testing.T) {
	for s, want := range chapter {
		if r, is := refs.Name(s); r != want || !is {
			t.Errorf("Name of %q: %d, %v", s, r, is)
		}
		// What is nearly a name is none.
		for _, x := range []string{strings.ToUpper(s), strings.ToUpper(s[:1]) + s[1:], s[1:], s[:len(s)-1], s + "s", s + ";", "&" + s, " " + s, s + " ", s + "\x00", s + "\xff"} {
			if _, is := chapter[x]; is {
				continue
			}
			if r, is := refs.Name(x); r != 0 || is {
				t.Errorf("Name of %q: %d, %v", x, r, is)
			}
		}
	}
	for _, s := range []string{"", "AMP", "Lt", "no", "#65", "#x41", "\xff", "\ufffd", "shy", "frac12", "a", "amplt"} {
		if r, is := refs.Name(s); r != 0 || is {
			t.Errorf("Name of %q: %d, %v", s, r, is)
		}
	}
}

func TestNameOfShortTexts(t *testing.T) {
	letters := strings.Split("abcdefghijklmnopqrstuvwxyz", "")
	each(letters, 4, func(s string) {
		want, known := chapter[s]
		if r, is := refs.Name(s); r != want || is != known {
			t.Fatalf("Name of %q: %d, %v", s, r, is)
		}
	})
}

func TestOne(t *testing.T) {
	for _, x := range []struct {
		s string
		r rune
		n int
	}{
		{"&gt;x", '>', 4},
		{"&hellip;", 8230, 8},
		{"&amp;amp;", '&', 5},
		{"&#65;&#66;", 'A', 5},
		{"&#x41;1", 'A', 6},
		{"&#X41;", 'A', 6},
		{"&#x20aC;", 8364, 8},
		{"&#9;", 9, 4},
		{"&#10;", 10, 5},
		{"&#1;", 1, 4},
		{"&#127;", 127, 6},
		// Not at the beginning, or not all of it.
		{"", 0, 0},
		{"&", 0, 0},
		{"x&gt;", 0, 0},
		{" &gt;", 0, 0},
		{"&&gt;", 0, 0},
		{"gt;", 0, 0},
		{"&gt", 0, 0},
		{"&gt ;", 0, 0},
		{"& gt;", 0, 0},
		{"&gtx;", 0, 0},
		{"&xgt;", 0, 0},
		{"&;", 0, 0},
		{"&no;", 0, 0},
		{"&GT;", 0, 0},
		{"&gt&lt;", 0, 0},
		// Numbers without digits, with others, or not ended.
		{"&#;", 0, 0},
		{"&#", 0, 0},
		{"&#x", 0, 0},
		{"&#x;", 0, 0},
		{"&#X;", 0, 0},
		{"&#65", 0, 0},
		{"&#x41", 0, 0},
		{"&#x41 ;", 0, 0},
		{"&#65 ;", 0, 0},
		{"& #65;", 0, 0},
		{"&# 65;", 0, 0},
		{"&#+65;", 0, 0},
		{"&#-65;", 0, 0},
		{"&#6_5;", 0, 0},
		{"&#x4_1;", 0, 0},
		{"&#1a;", 0, 0},
		{"&#a;", 0, 0},
		{"&#xg;", 0, 0},
		{"&#x4G;", 0, 0},
		{"&#xx41;", 0, 0},
		{"&#0x41;", 0, 0},
		{"&x41;", 0, 0},
		{"&65;", 0, 0},
		{"&##65;", 0, 0},
		{"&#\u0661;", 0, 0}, // a digit, but none from 0 to 9
		{"&#\uff11;", 0, 0},
		{"&#6\xff5;", 0, 0},
		{"&#65\xff;", 0, 0},
		// As many digits as may be, and one more.
		{"&#0000065;", 'A', 10},
		{"&#00000065;", 0, 0},
		{"&#1234567;", 65533, 10},
		{"&#9999999;", 65533, 10},
		{"&#12345678;", 0, 0},
		{"&#99999999999999999999;", 0, 0},
		{"&#x000041;", 'A', 10},
		{"&#x0000041;", 0, 0},
		{"&#xffffff;", 65533, 10},
		{"&#xfffffff;", 0, 0},
		{"&#4294967361;", 0, 0},
		{"&#x100000041;", 0, 0},
		// Numbers that are no characters', and those beside them.
		{"&#0;", 65533, 4},
		{"&#0000000;", 65533, 10},
		{"&#x0;", 65533, 5},
		{"&#12;", 12, 5},
		{"&#13;", 65533, 5},
		{"&#14;", 14, 5},
		{"&#xd;", 65533, 5},
		{"&#xD;", 65533, 5},
		{"&#55295;", 55295, 8},
		{"&#55296;", 65533, 8},
		{"&#57343;", 65533, 8},
		{"&#57344;", 57344, 8},
		{"&#xD7FF;", 55295, 8},
		{"&#xD800;", 65533, 8},
		{"&#xDFFF;", 65533, 8},
		{"&#xE000;", 57344, 8},
		{"&#65533;", 65533, 8},
		{"&#65535;", 65535, 8},
		{"&#65536;", 65536, 8},
		{"&#1114111;", 1114111, 10},
		{"&#1114112;", 65533, 10},
		{"&#x10FFFF;", 1114111, 10},
		{"&#x110000;", 65533, 10},
	} {
		if r, n := refs.One(x.s); r != x.r || n != x.n {
			t.Errorf("One of %q: %d, %d, not %d, %d", x.s, r, n, x.r, x.n)
		}
	}
}

func TestOneOfEveryName(t *testing.T) {
	for name, want := range chapter {
		s := "&" + name + ";"
		if r, n := refs.One(s + "x;"); r != want || n != len(s) {
			t.Errorf("One of %q: %d, %d", s, r, n)
		}
		if got := refs.Decode("a" + s + s + "b"); got != "a"+string(want)+string(want)+"b" {
			t.Errorf("Decode of %q: %q", s, got)
		}
		for _, x := range []string{"&" + name, "&" + name + ",", "&" + strings.ToUpper(name) + ";", "&" + name + " ;", "& " + name + ";", "&#" + name + ";"} {
			if r, n := refs.One(x); r != 0 || n != 0 {
				t.Errorf("One of %q: %d, %d", x, r, n)
			}
			if got := refs.Decode(x); got != x {
				t.Errorf("Decode of %q: %q", x, got)
			}
		}
	}
}

// numbers tells numbers from 0 to above 1114111: those at the edges, and some of those between.
func numbers(tell func(int64)) {
	for number := range int64(1114111 + 300) {
		if number < 70000 || number > 1114000 || number%97 < 3 {
			tell(number)
		}
	}
}

func TestOneOfNumbers(t *testing.T) {
	numbers(func(number int64) {
		for _, s := range []string{
			"&#" + strconv.FormatInt(number, 10) + ";",
			"&#x" + strconv.FormatInt(number, 16) + ";",
			"&#X" + strings.ToUpper(strconv.FormatInt(number, 16)) + ";",
		} {
			if r, n := refs.One(s); r != stands(number) || n != len(s) {
				t.Fatalf("One of %q: %d, %d", s, r, n)
			}
		}
	})
}

func TestDecode(t *testing.T) {
	for s, want := range map[string]string{
		"":                   "",
		"abc":                "abc",
		"a&lt;&#x20AC;&no;":  "a<\u20ac&no;",
		"&#65;&#x41;&#X41;":  "AAA",
		"&nbsp;&hellip;":     "\u00a0\u2026",
		"<p title=\"&lt;\">": "<p title=\"<\">",
		// What comes of one is not looked at again.
		"&amp;lt;":        "&lt;",
		"&amp;amp;lt;":    "&amp;lt;",
		"&amp;#65;":       "&#65;",
		"&#38;lt;":        "&lt;",
		"&#x26;#38;":      "&#38;",
		"&&lt;;":          "&<;",
		"&am&amp;p;":      "&am&p;",
		"&amp;&amp;amp;;": "&&amp;;",
		// What is none stays, and one may begin in it.
		"&":          "&",
		"&amp":       "&amp",
		"&&amp;":     "&&",
		"&&&":        "&&&",
		"&#;&#x;&;":  "&#;&#x;&;",
		"&#&lt;":     "&#<",
		"&#x&lt;":    "&#x<",
		"&#12&gt;":   "&#12>",
		"&lt&gt;":    "&lt>",
		"& amp;":     "& amp;",
		"&AMP;&Lt;":  "&AMP;&Lt;",
		"&no;&amp;":  "&no;&",
		"a;b&lt;c;":  "a;b<c;",
		"&lt;&gt":    "<&gt",
		"x&lt;y&gt;": "x<y>",
		// What no reference has stays as it is, right or not.
		"\r\n\x00\xff":         "\r\n\x00\xff",
		"\xff&lt;\xc3":         "\xff<\xc3",
		"\u20ac&euro;\ufffd":   "\u20ac\u20ac\ufffd",
		"&\xff;&\u00e9;&#\x00": "&\xff;&\u00e9;&#\x00",
		// Numbers that are no characters'.
		"&#0;&#13;&#xD800;&#1114112;": "\ufffd\ufffd\ufffd\ufffd",
		"&#13;&#10;":                  "\ufffd\n",
		"&#0;":                        "\ufffd",
	} {
		if got := refs.Decode(s); got != want {
			t.Errorf("Decode of %q: %q, not %q", s, got, want)
		}
	}
}

func TestReferencesOfMany(t *testing.T) {
	each(strings.Split("&#xX;01aFgd", ""), 5, func(s string) { ask(t, s) })
	each([]string{"&", ";", "amp", "lt", "no", "#", "x", "65", "\xff", "\u20ac", "&amp;", "&#x26;"}, 5, func(s string) { ask(t, s) })
	each(strings.Split("01379adDfF8;", ""), 4, func(s string) {
		ask(t, "&#"+s)
		ask(t, "&#x"+s+";")
		ask(t, "&#1111"+s+";")
		ask(t, "&#X1"+s+"00;")
	})
}

func TestLongTexts(t *testing.T) {
	// Each of these takes long, if what follows on a & is gone through as far as the text goes.
	for _, x := range []struct{ part, want string }{
		{"&", "&"},
		{"&#", "&#"},
		{"&#1", "&#1"},
		{"&#x", "&#x"},
		{"&amp", "&amp"},
		{"&amp;", "&"},
		{"&#65;", "A"},
	} {
		const times = 200000
		if got := refs.Decode(strings.Repeat(x.part, times)); got != strings.Repeat(x.want, times) {
			t.Errorf("Decode of many %q is another one", x.part)
		}
	}
	for _, s := range []string{"&#", "&#x", "&"} {
		for _, more := range []string{"1", "0", "a"} {
			long := s + strings.Repeat(more, 1000000) + ";"
			if r, n := refs.One(long); r != 0 || n != 0 {
				t.Errorf("One of %q and many %q: %d, %d", s, more, r, n)
			}
			if refs.Decode(long) != long {
				t.Errorf("Decode of %q and many %q is another one", s, more)
			}
		}
	}
}

func TestEscape(t *testing.T) {
	for _, x := range []struct {
		s     string
		value bool
		want  string
	}{
		{"", false, ""},
		{"", true, ""},
		{"abc", false, "abc"},
		{"abc", true, "abc"},
		{"<a \"b\" & 'c'>", true, "&lt;a &quot;b&quot; &amp; 'c'&gt;"},
		{"<a \"b\" & 'c'>", false, "&lt;a \"b\" &amp; 'c'&gt;"},
		{"&&", false, "&amp;&amp;"},
		{"\"\"", true, "&quot;&quot;"},
		// What is written already is written again.
		{"&amp;&lt;", false, "&amp;amp;&amp;lt;"},
		{"&quot;", true, "&amp;quot;"},
		{"&#65;", true, "&amp;#65;"},
		// All else stays as it is, right or not.
		{"\u00a0\u20ac\u2026;#", true, "\u00a0\u20ac\u2026;#"},
		{"\r\n\t\x00\xff\xc3", true, "\r\n\t\x00\xff\xc3"},
		{"\xff<\xff", false, "\xff&lt;\xff"},
		{"\ufffd>", true, "\ufffd&gt;"},
	} {
		if got := refs.Escape(x.s, x.value); got != x.want {
			t.Errorf("Escape of %q, %v: %q, not %q", x.s, x.value, got, x.want)
		}
	}
}

func TestEscapeOfEachByte(t *testing.T) {
	special := map[byte]string{'&': "&amp;", '<': "&lt;", '>': "&gt;"}
	for c := range 256 {
		s := string([]byte{byte(c)})
		want := s
		if w, is := special[byte(c)]; is {
			want = w
		}
		if got := refs.Escape("x"+s+"y", false); got != "x"+want+"y" {
			t.Errorf("Escape of the byte %d: %q", c, got)
		}
		if c == '"' {
			want = "&quot;"
		}
		if got := refs.Escape("x"+s+"y", true); got != "x"+want+"y" {
			t.Errorf("Escape of the byte %d, as in a value: %q", c, got)
		}
	}
}

// P2.2

// many tells many texts, of parts that are right and of such as are not.
func many(tell func(string)) {
	each([]string{"&", "<", ">", "\"", "'", "amp", ";", "#", "x", "6", "\n", "\u20ac", "\ufffd"}, 5, tell)
	each([]string{"&amp;", "&lt;", "&quot", "&#0;", "&#13;", "&#10;", "&#xD800;", "&#xdfff;", "&#1114112;", "&#x80;", "&#65533;", "&euro;", "\x00", "\r", "\xff", "\xe2\x82"}, 4, tell)
	for c := range 256 {
		tell(string([]byte{byte(c)}))
	}
}

func TestWrittenIsDecodedAsItWas(t *testing.T) {
	many(func(s string) {
		for _, value := range []bool{false, true} {
			w := refs.Escape(s, value)
			if got := refs.Decode(w); got != s {
				t.Fatalf("%q is written %q (as in a value: %v), and that decoded %q", s, w, value, got)
			}
			if strings.ContainsAny(w, "<>") || value && strings.Contains(w, "\"") {
				t.Fatalf("%q is written %q (as in a value: %v)", s, w, value)
			}
		}
	})
}

func TestDecodedOfRightIsRight(t *testing.T) {
	many(func(s string) {
		if got := refs.Decode(s); utf.Is(s) && !utf.Is(got) {
			t.Fatalf("%q is right, and decoded it is %q, which is not", s, got)
		}
	})
	numbers(func(number int64) {
		s := "&#" + strconv.FormatInt(number, 10) + ";"
		if got := refs.Decode(s); !utf.Is(got) {
			t.Fatalf("%q is right, and decoded it is %q, which is not", s, got)
		}
	})
}
