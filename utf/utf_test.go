package utf_test

import (
	"slices"
	"strings"
	"testing"

	"strainer/utf"
)

// The calls have just these signatures.
var (
	_ func([]byte) []rune       = utf.Runes
	_ func([]rune) string       = utf.Text
	_ func([]byte) string       = utf.Right
	_ func(string) bool         = utf.Is
	_ func(string) string       = utf.Fold
	_ func(string, string) bool = utf.Prefix
)

// begins is the character that begins bytes, and how many bytes it has; 65533 and 0, if none does. It is told by arithmetic, so that it shares nothing with the library's own decoding.
func begins(b []byte) (rune, int) {
	n, r, least := 0, rune(0), rune(0)
	switch c := b[0]; {
	case c < 0x80:
		return rune(c), 1
	case c>>5 == 6:
		n, r, least = 2, rune(c&31), 0x80
	case c>>4 == 14:
		n, r, least = 3, rune(c&15), 0x800
	case c>>3 == 30:
		n, r, least = 4, rune(c&7), 0x10000
	}
	if n == 0 || len(b) < n {
		return 65533, 0
	}
	for _, c := range b[1:n] {
		if c>>6 != 2 {
			return 65533, 0
		}
		r = r<<6 | rune(c&63)
	}
	if r < least || !may(r) {
		return 65533, 0
	}
	return r, n
}

// may tells whether a number may be a character.
func may(r rune) bool {
	return r >= 0 && r <= 1114111 && !(r >= 55296 && r <= 57343)
}

// characters is bytes' characters, and whether all are written as UTF-8.
func characters(b []byte) ([]rune, bool) {
	var l []rune
	all := true
	for len(b) > 0 {
		r, n := begins(b)
		if n == 0 {
			all, n = false, 1
		}
		l, b = append(l, r), b[n:]
	}
	return l, all
}

// bytes is a character in UTF-8.
func bytes(r rune) []byte {
	switch {
	case !may(r):
		return []byte{0xef, 0xbf, 0xbd}
	case r < 0x80:
		return []byte{byte(r)}
	case r < 0x800:
		return []byte{byte(0xc0 | r>>6), byte(0x80 | r&63)}
	case r < 0x10000:
		return []byte{byte(0xe0 | r>>12), byte(0x80 | r>>6&63), byte(0x80 | r&63)}
	}
	return []byte{byte(0xf0 | r>>18), byte(0x80 | r>>12&63), byte(0x80 | r>>6&63), byte(0x80 | r&63)}
}

// right is bytes' characters, made right, as bytes.
func right(b []byte) []byte {
	var out []byte
	l, _ := characters(b)
	for i, r := range l {
		switch {
		case r == 10 && i > 0 && l[i-1] == 13:
		case r == 13:
			out = append(out, 10)
		case r == 0:
			out = append(out, bytes(65533)...)
		default:
			out = append(out, bytes(r)...)
		}
	}
	return out
}

// edges is bytes on both sides of each place where UTF-8 tells bytes apart.
func edges() []byte {
	return []byte{0, 1, 9, 10, 11, 13, 'A', 'a', 0x7f, 0x80, 0x8f, 0x90, 0x9f, 0xa0, 0xbd, 0xbf, 0xc0, 0xc1, 0xc2, 0xdf, 0xe0, 0xe1, 0xec, 0xed, 0xee, 0xef, 0xf0, 0xf1, 0xf3, 0xf4, 0xf5, 0xf7, 0xf8, 0xfe, 0xff}
}

// each tells all lists of n of some bytes.
func each(some []byte, n int, tell func([]byte)) {
	b := make([]byte, n)
	var from func(i int)
	from = func(i int) {
		if i == n {
			tell(b)
			return
		}
		for _, c := range some {
			b[i] = c
			from(i + 1)
		}
	}
	from(0)
}

// every tells many bytes: none, all of one and of two, and those of the edges of three and of four.
func every(tell func([]byte)) {
	all := make([]byte, 256)
	for i := range all {
		all[i] = byte(i)
	}
	each(all, 0, tell)
	each(all, 1, tell)
	each(all, 2, tell)
	each(edges(), 3, tell)
	each(edges(), 4, tell)
}

// P1.1

func TestRunes(t *testing.T) {
	for _, x := range []struct {
		of   string
		want []rune
	}{
		{"", nil},
		{"abc", []rune{'a', 'b', 'c'}},
		{"\x00\r\n\x7f", []rune{0, 13, 10, 127}},
		{"a\u00e9\u20ac\U0001f600z", []rune{'a', 233, 8364, 128512, 'z'}},
		{"\ufffd", []rune{65533}},
		// Bytes that begin nothing.
		{"\x80", []rune{65533}},
		{"\xbfa", []rune{65533, 'a'}},
		{"\xfe\xff", []rune{65533, 65533}},
		// What begins and does not go on: each byte by itself.
		{"\xc3", []rune{65533}},
		{"\xc3a", []rune{65533, 'a'}},
		{"\xe2\x82", []rune{65533, 65533}},
		{"\xe2\x82a", []rune{65533, 65533, 'a'}},
		{"\xf0\x9f\x98", []rune{65533, 65533, 65533}},
		{"\xe2\xe2\x82\xac", []rune{65533, 8364}},
		{"\xf0\x9f\xc3\xa9", []rune{65533, 65533, 233}},
		// Not the fewest bytes.
		{"\xc0\x80", []rune{65533, 65533}},
		{"\xc1\xbf", []rune{65533, 65533}},
		{"\xc2\x80", []rune{128}},
		{"\xe0\x9f\xbf", []rune{65533, 65533, 65533}},
		{"\xe0\xa0\x80", []rune{2048}},
		{"\xf0\x8f\xbf\xbf", []rune{65533, 65533, 65533, 65533}},
		{"\xf0\x90\x80\x80", []rune{65536}},
		// From 55296 to 57343.
		{"\xed\x9f\xbf", []rune{55295}},
		{"\xed\xa0\x80", []rune{65533, 65533, 65533}},
		{"\xed\xbf\xbf", []rune{65533, 65533, 65533}},
		{"\xee\x80\x80", []rune{57344}},
		// Above 1114111.
		{"\xf4\x8f\xbf\xbf", []rune{1114111}},
		{"\xf4\x90\x80\x80", []rune{65533, 65533, 65533, 65533}},
		{"\xf8\x88\x80\x80\x80", []rune{65533, 65533, 65533, 65533, 65533}},
	} {
		if got := utf.Runes([]byte(x.of)); !slices.Equal(got, x.want) {
			t.Errorf("Runes of %q: %v, not %v", x.of, got, x.want)
		}
	}
	if got := utf.Runes(nil); len(got) != 0 {
		t.Errorf("Runes of nil: %v", got)
	}
}

func TestRunesOfMany(t *testing.T) {
	every(func(b []byte) {
		want, _ := characters(b)
		if got := utf.Runes(b); !slices.Equal(got, want) {
			t.Fatalf("Runes of %q: %v, not %v", b, got, want)
		}
	})
}

func TestText(t *testing.T) {
	for _, x := range []struct {
		of   []rune
		want string
	}{
		{nil, ""},
		{[]rune{}, ""},
		{[]rune{'a', 'b'}, "ab"},
		{[]rune{0, 13, 10}, "\x00\r\n"},
		{[]rune{127, 128, 2047, 2048, 65535, 65536}, "\x7f\xc2\x80\xdf\xbf\xe0\xa0\x80\xef\xbf\xbf\xf0\x90\x80\x80"},
		{[]rune{65533}, "\ufffd"},
		{[]rune{-1, 'a', -2147483648}, "\ufffda\ufffd"},
		{[]rune{55295, 55296, 57343, 57344}, "\xed\x9f\xbf\ufffd\ufffd\xee\x80\x80"},
		{[]rune{1114111, 1114112, 2147483647}, "\xf4\x8f\xbf\xbf\ufffd\ufffd"},
	} {
		if got := utf.Text(x.of); got != x.want {
			t.Errorf("Text of %v: %q, not %q", x.of, got, x.want)
		}
	}
}

func TestTextOfEveryCharacter(t *testing.T) {
	for r := rune(-3); r <= 1114111+3; r++ {
		got := utf.Text([]rune{'<', r, '>'})
		if want := "<" + string(bytes(r)) + ">"; got != want {
			t.Fatalf("Text of %d: %q, not %q", r, got, want)
		}
		back := rune(65533)
		if may(r) {
			back = r
		}
		if l := utf.Runes([]byte(got)); !slices.Equal(l, []rune{'<', back, '>'}) {
			t.Fatalf("Runes of %q: %v", got, l)
		}
	}
}

// P1.2

func TestRight(t *testing.T) {
	for _, x := range []struct{ of, want string }{
		{"", ""},
		{"abc\t\n", "abc\t\n"},
		{"a\u00e9\u20ac\U0001f600", "a\u00e9\u20ac\U0001f600"},
		{"\ufffd", "\ufffd"},
		{"a\r\nb\xff", "a\nb\ufffd"},
		{"\r", "\n"},
		{"\r\n", "\n"},
		{"\n\r", "\n\n"},
		{"\r\r", "\n\n"},
		{"\r\r\n", "\n\n"},
		{"\r\n\n", "\n\n"},
		{"\r\n\r\n", "\n\n"},
		{"\rx\n", "\nx\n"},
		{"\r\x00\n", "\n\ufffd\n"},
		{"\r\xff\n", "\n\ufffd\n"},
		{"\x00", "\ufffd"},
		{"x\x00\x00y", "x\ufffd\ufffdy"},
		{"\xc3\r\n", "\ufffd\n"},
		{"\xc0\x80", "\ufffd\ufffd"},
		{"\xed\xa0\x80", "\ufffd\ufffd\ufffd"},
		{"\xf4\x90\x80\x80", "\ufffd\ufffd\ufffd\ufffd"},
		{"\xe2\x82", "\ufffd\ufffd"},
	} {
		if got := utf.Right([]byte(x.of)); got != x.want {
			t.Errorf("Right of %q: %q, not %q", x.of, got, x.want)
		}
	}
	if got := utf.Right(nil); got != "" {
		t.Errorf("Right of nil: %q", got)
	}
}

func TestRightOfMany(t *testing.T) {
	every(func(b []byte) {
		if got, want := utf.Right(b), string(right(b)); got != want {
			t.Fatalf("Right of %q: %q, not %q", b, got, want)
		}
	})
	each([]byte("\x00\n\ra\xff"), 6, func(b []byte) {
		if got, want := utf.Right(b), string(right(b)); got != want {
			t.Fatalf("Right of %q: %q, not %q", b, got, want)
		}
	})
}

func TestIs(t *testing.T) {
	for s, want := range map[string]bool{
		"":                         true,
		"abc\n\t\x01\x7f":          true,
		"a\u00e9\u20ac\U0001f600":  true,
		"\u0080\u07ff\u0800\uffff": true,
		"\ufffd":                   true,
		"\ufffd\ufffdx":            true,
		"\ud7ff\ue000\U0010ffff":   true,
		"\r":                       false,
		"a\r\nb":                   false,
		"\x00":                     false,
		"ab\x00":                   false,
		"\xff":                     false,
		"\ufffd\xff":               false,
		"\xff\ufffd":               false,
		"\x80":                     false,
		"\xc3":                     false,
		"\xe2\x82":                 false,
		"\xef\xbf":                 false,
		"\xef\xbfa":                false,
		"\xc0\x80":                 false,
		"\xe0\x9f\xbf":             false,
		"\xed\xa0\x80":             false,
		"\xed\xbf\xbf":             false,
		"\xf4\x90\x80\x80":         false,
	} {
		if got := utf.Is(s); got != want {
			t.Errorf("Is of %q: %v", s, got)
		}
	}
}

func TestIsOfMany(t *testing.T) {
	every(func(b []byte) {
		l, all := characters(b)
		want := all && !slices.Contains(l, 0) && !slices.Contains(l, 13)
		if got := utf.Is(string(b)); got != want {
			t.Fatalf("Is of %q: %v", b, got)
		}
	})
}

func TestFold(t *testing.T) {
	for s, want := range map[string]string{
		"":                   "",
		"AbcXyZ":             "abcxyz",
		"abc019-_":           "abc019-_",
		"@AZ[`az{":           "@az[`az{",
		"\u00c9\u0410":       "\u00c9\u0410",       // letters, but none from A to Z
		"\u0130\u212a\u1e9e": "\u0130\u212a\u1e9e", // ones of which others make small ones of A to Z
		"A\xff\x00\r\nB":     "a\xff\x00\r\nb",
		"\xc3A":              "\xc3a",
		"\xc1\xda":           "\xc1\xda",
	} {
		if got := utf.Fold(s); got != want {
			t.Errorf("Fold of %q: %q, not %q", s, got, want)
		}
	}
}

func TestFoldOfEachByte(t *testing.T) {
	for c := range 256 {
		want := c
		if c >= 65 && c <= 90 {
			want += 32
		}
		if got := utf.Fold(string([]byte{'x', byte(c), 'x'})); got != string([]byte{'x', byte(want), 'x'}) {
			t.Errorf("Fold of the byte %d: %q", c, got)
		}
	}
}

func TestPrefix(t *testing.T) {
	for _, x := range []struct {
		s, word string
		want    bool
	}{
		{"", "", true},
		{"x", "", true},
		{"\xff", "", true},
		{"", "x", false},
		{"script", "script", true},
		{"SCRIPT>", "script", true},
		{"</ScRiPt>", "</script", true},
		{"scrip", "script", false},
		{"</scr", "</script", false},
		{"xscript", "script", false},
		{"scrxpt", "script", false},
		{"scripx", "script", false},
		// The word is not folded.
		{"X", "X", false},
		{"x", "X", false},
		{"abc", "aBc", false},
		{"ABC", "abC", false},
		// Bytes beside A to Z.
		{"@[", "@[", true},
		{"@", "`", false},
		{"[", "{", false},
		{"`", "@", false},
		{"{", "[", false},
		{"\x00", " ", false},
		// What is no letter from A to Z is asked as it is, byte by byte.
		{"\u00c9x", "\u00c9", true},
		{"\u00c9", "\u00e9", false},
		{"\u00e9", "\xc3", true},
		{"\u212a", "k", false},
		{"\xffa", "\xff", true},
		{"\xfe", "\xff", false},
		{"\ufffd", "\xff", false},
		{"\xff", "\ufffd", false},
	} {
		if got := utf.Prefix(x.s, x.word); got != x.want {
			t.Errorf("Prefix of %q and %q: %v", x.s, x.word, got)
		}
	}
}

func TestPrefixOfMany(t *testing.T) {
	some := []byte("AZaz@\xc3")
	var texts []string
	for n := range 4 {
		each(some, n, func(b []byte) { texts = append(texts, string(b)) })
	}
	for _, s := range texts {
		for _, word := range texts {
			want := strings.HasPrefix(utf.Fold(s), word)
			if got := utf.Prefix(s, word); got != want {
				t.Fatalf("Prefix of %q and %q: %v", s, word, got)
			}
		}
	}
}

// P1.3

func TestRightIsRight(t *testing.T) {
	ask := func(b []byte) {
		s := utf.Right(b)
		if !utf.Is(s) {
			t.Fatalf("%q made right is %q, which is not right", b, s)
		}
		if again := utf.Right([]byte(s)); again != s {
			t.Fatalf("%q made right is %q, and that %q", b, s, again)
		}
		if utf.Is(string(b)) && s != string(b) {
			t.Fatalf("%q is right, and made right it is %q", b, s)
		}
	}
	every(ask)
	each([]byte("\x00\n\ra\xff\xef\xbf\xbd"), 5, ask)
}

// The rules that hold everywhere: what is handed in is not changed, its spare room neither, and what is answered is new.

func TestNothingIsChanged(t *testing.T) {
	room := []byte("A\r\n\x00\xffzSPARE\r")
	b := room[:6]
	was := string(room)
	utf.Right(b)
	l := utf.Runes(b)
	if string(room) != was {
		t.Errorf("bytes were changed: %q", room)
	}
	if same := utf.Runes(b); &same[0] == &l[0] {
		t.Error("Runes answers the same list twice")
	}
	runes := []rune{'A', -1, 0xd800, 'B', 'C'}
	kept := slices.Clone(runes)
	utf.Text(runes[:3])
	if !slices.Equal(runes, kept) {
		t.Errorf("characters were changed: %v", runes)
	}
}

func TestNothingIsKept(t *testing.T) {
	b := []byte("AbC")
	s := utf.Right(b)
	l := utf.Runes(b)
	b[0] = 'x'
	if s != "AbC" || l[0] != 'A' {
		t.Errorf("what was answered changed with what was handed in: %q %v", s, l)
	}
}
