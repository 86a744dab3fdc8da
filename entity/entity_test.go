package entity_test

import (
	"fmt"
	"math/rand"
	"regexp"
	"strings"
	"testing"
	"unicode/utf8"

	"tipstave/api"
	"tipstave/entity"
	"tipstave/testaid"
)

// mayBe tells by chapter 1's own numbers which characters may be.
func mayBe(c int) bool {
	return c == 9 || c == 10 || c == 13 || 32 <= c && c <= 55295 || 57344 <= c && c <= 65533 || 65536 <= c && c <= 1114111
}

// front is the character that a text begins with, and how many bytes it has: 0, if none that may be begins there.
func front(s string) (int, int) {
	c, n := utf8.DecodeRuneInString(s)
	if c == utf8.RuneError && n < 3 || !mayBe(int(c)) {
		return 0, 0
	}
	return int(c), n
}

// refs is the chapter's own form of a reference.
var refs = regexp.MustCompile(`^&(?:(amp|lt|gt|quot|apos)|#([0-9]{1,7})|#x([0-9a-fA-F]{1,6}));`)

// number is what digits tell to a base.
func number(digits string, base int) int {
	n := 0
	for _, d := range strings.ToLower(digits) {
		n = n*base + strings.IndexRune("0123456789abcdef", d)
	}
	return n
}

// ref is what the reference tells that a text begins with, and how many bytes that has: 0, if it begins with none.
func ref(s string) (int, int) {
	m := refs.FindStringSubmatch(s)
	if m == nil {
		return 0, 0
	}
	c := int(map[string]rune{"amp": '&', "lt": '<', "gt": '>', "quot": '"', "apos": '\''}[m[1]])
	if m[2] != "" {
		c = number(m[2], 10)
	} else if m[3] != "" {
		c = number(m[3], 16)
	}
	if !mayBe(c) {
		return 0, 0
	}
	return c, len(m[0])
}

// told is what Text, or Value, must answer.
func told(s string, value bool) (string, int, api.Errno) {
	b := ""
	for at := 0; at < len(s); {
		c, n := front(s[at:])
		if n == 0 {
			return "", at, api.ErrUtf
		}
		r, k := ref(s[at:])
		switch {
		case c == '<' || c == '&' && k == 0:
			return "", at, api.ErrXml
		case c == '&':
			c, n = r, k
		case c == 13 && at+1 < len(s) && s[at+1] == 10:
			c, n = 10, 2
		case c == 13:
			c = 10
		}
		if s[at] != '&' && value && (c == 9 || c == 10) {
			c = 32
		}
		b += string(rune(c))
		at += n
	}
	return b, len(s), api.OK
}

// escaped is what EscapeText, or EscapeValue, must answer.
func escaped(s string, value bool) (string, api.Errno) {
	for at := 0; at < len(s); {
		_, n := front(s[at:])
		if n == 0 {
			return "", api.ErrUtf
		}
		at += n
	}
	pairs := [][2]string{{"&", "&amp;"}, {"<", "&lt;"}, {">", "&gt;"}, {"\r", "&#13;"}, {"\"", "&quot;"}, {"\t", "&#9;"}, {"\n", "&#10;"}}
	if !value {
		pairs = pairs[:4]
	}
	for _, p := range pairs {
		s = strings.ReplaceAll(s, p[0], p[1])
	}
	return s, api.OK
}

// ways are a text's, and a value's.
var ways = []struct {
	name   string
	value  bool
	tell   func(string) (string, int, api.Errno)
	escape func(string) (string, api.Errno)
}{
	{"text", false, entity.Text, entity.EscapeText},
	{"value", true, entity.Value, entity.EscapeValue},
}

// check holds all that is answered of a text against the chapter.
func check(t *testing.T, s string) {
	t.Helper()
	for _, w := range ways {
		want, wat, we := told(s, w.value)
		if got, at, e := w.tell(s); got != want || at != wat || e != we {
			t.Fatalf("%s: %q tells %q %d %v, not %q %d %v", w.name, s, got, at, e, want, wat, we)
		}
		want, we = escaped(s, w.value)
		got, e := w.escape(s)
		if got != want || e != we {
			t.Fatalf("%s: %q is escaped %q %v, not %q %v", w.name, s, got, e, want, we)
		}
		if e != api.OK {
			continue
		}
		was, at, e := w.tell(got) // P3.3
		if was != s || at != len(got) || e != api.OK {
			t.Fatalf("%s: %q, escaped %q, tells %q %d %v", w.name, s, got, was, at, e)
		}
		if again, e := w.escape(was); again != got || e != api.OK {
			t.Fatalf("%s: %q, escaped again, is %q %v", w.name, was, again, e)
		}
	}
}

// P3.1, P3.2, P3.3: all texts of few pieces, of which references and lines' ends come about.
func TestEveryText(t *testing.T) {
	testaid.EveryText([]string{"&", "#", "x", "6", "d", ";", "amp", "\r", "\n", "\t", "<", "\u00e4", "\xff"}, 4, func(s string) { check(t, s) })
}

// P3.1: all texts of few pieces behind what begins a number.
func TestEveryNumberLike(t *testing.T) {
	for _, ahead := range []string{"&#", "&#x", "a&#x", "&#6"} {
		testaid.EveryText([]string{"0", "9", "a", "F", "g", "_", "+", "-", " ", ";", "x", "&"}, 3, func(s string) { check(t, ahead+s+";") })
	}
}

// P3.1: all blanks that stand themselves, and those that references tell, side by side.
func TestEveryBlank(t *testing.T) {
	testaid.EveryText([]string{"\t", "\n", "\r", " ", "&#9;", "&#10;", "&#xD;", "a"}, 5, func(s string) { check(t, s) })
}

// P3.1, P3.2, P3.3: each character, itself and by its numbers.
func TestEveryCharacter(t *testing.T) {
	for c := range 0x110100 {
		dec, hex := fmt.Sprintf("a&#%d;", c), fmt.Sprintf("a&#x%x;", c)
		if c%2 == 1 {
			hex = fmt.Sprintf("a&#x%06X;", c)
		}
		for _, s := range []string{dec, hex} {
			want, wat, we := "a"+string(rune(c)), len(s), api.OK
			if !mayBe(c) {
				want, wat, we = "", 1, api.ErrXml
			}
			for _, w := range ways {
				if got, at, e := w.tell(s); got != want || at != wat || e != we {
					t.Fatalf("%s: %q %q %d %v", w.name, s, got, at, e)
				}
			}
		}
		if mayBe(c) {
			check(t, "a"+string(rune(c)))
		}
	}
}

// P3.1: numbers at the edges, with as many digits as may be, and more.
func TestNumbers(t *testing.T) {
	for s, want := range map[string]string{
		"&#9;": "\t", "&#10;": "\n", "&#13;": "\r", "&#32;": " ", "&#09;": "\t", "&#0000065;": "A", "&#60;": "<", "&#38;": "&", "&#55295;": "\ud7ff", "&#57344;": "\ue000", "&#65533;": "\ufffd", "&#65536;": "\U00010000", "&#1114111;": "\U0010ffff",
		"&#x9;": "\t", "&#xA;": "\n", "&#xa;": "\n", "&#xD;": "\r", "&#x20;": " ", "&#x000041;": "A", "&#xD7FF;": "\ud7ff", "&#xe000;": "\ue000", "&#xFffD;": "\ufffd", "&#x10000;": "\U00010000", "&#x10FFFF;": "\U0010ffff", "&#x10ffff;": "\U0010ffff", "&#x26;#65;": "&#65;",
	} {
		for _, w := range ways {
			if got, at, e := w.tell(s); got != want || at != len(s) || e != api.OK {
				t.Errorf("%s: %q %q %d %v", w.name, s, got, at, e)
			}
		}
	}
	for _, s := range []string{"0", "8", "11", "12", "14", "31", "55296", "57343", "65534", "65535", "1114112", "9999999", "00000065", "65 ", " 65", "+65", "-65", "6_5", "0x41", "0b1", "A", "6A", "", "4294967361", "18446744073709551681", "65.0", "6e1",
		"x0", "x8", "xB", "x1F", "xD800", "xDFFF", "xFFFE", "xFFFF", "x110000", "xFFFFFF", "x0000041", "x 41", "x41 ", "x+41", "x-41", "x4_1", "x0x41", "x", "xG", "x4g", "xx41", "X41", "X", "x100000041", "\u0661", "x\uff11", "6\ufffd"} {
		for _, w := range ways {
			if got, at, e := w.tell("ab&#" + s + ";"); got != "" || at != 2 || e != api.ErrXml {
				t.Errorf("%s: %q %q %d %v", w.name, s, got, at, e)
			}
		}
	}
}

// P3.1: the five names, and what is none.
func TestNames(t *testing.T) {
	for s, want := range map[string]string{"&amp;": "&", "&lt;": "<", "&gt;": ">", "&quot;": "\"", "&apos;": "'", "&amp;lt;": "&lt;", "&amp;#60;": "&#60;", "&lt;&gt;": "<>", "&amp;&amp;": "&&", "&amp;amp;": "&amp;", "&amp;;": "&;"} {
		for _, w := range ways {
			if got, at, e := w.tell(s); got != want || at != len(s) || e != api.OK {
				t.Errorf("%s: %q %q %d %v", w.name, s, got, at, e)
			}
		}
	}
	for _, s := range []string{"&", "&;", "&a", "&amp", "&am;", "&ampx;", "&xamp;", "&Amp;", "&LT;", "& amp;", "&amp ;", "&amp\n;", "&&amp;", "&lt&gt;", "&nbsp;", "&amp<;", "&amp&;", "&#65", "&#", "&#x", "&#x41", "&65;", "&x41;", "&" + strings.Repeat("a", 1<<16) + ";", "&" + strings.Repeat(";", 9)} {
		for _, w := range ways {
			if got, at, e := w.tell("\u00e4" + s); got != "" || at != 2 || e != api.ErrXml {
				t.Errorf("%s: %q %q %d %v", w.name, s, got, at, e)
			}
		}
	}
}

// P3.1: the chapter's examples, and what stands itself.
func TestTell(t *testing.T) {
	for _, c := range []struct{ s, text, value string }{
		{"", "", ""},
		{"a&#65;&lt;", "aA<", "aA<"},
		{"a\r\nb", "a\nb", "a b"},
		{"a\nb\rc\td e", "a\nb\nc\td e", "a b c d e"},
		{"\r\r", "\n\n", "  "},
		{"\n\r", "\n\n", "  "},
		{"\r\r\n\r", "\n\n\n", "   "},
		{"\r\n\n", "\n\n", "  "},
		{"\r&#10;", "\n\n", " \n"},
		{"&#13;\n", "\r\n", "\r "},
		{"&#13;&#10;", "\r\n", "\r\n"},
		{"&#9;\t", "\t\t", "\t "},
		{">\"']]>;#", ">\"']]>;#", ">\"']]>;#"},
		{"\ufffd\u00e4\u20ac\U0001F600\u0085\u2028\u00a0\u007f", "\ufffd\u00e4\u20ac\U0001F600\u0085\u2028\u00a0\u007f", "\ufffd\u00e4\u20ac\U0001F600\u0085\u2028\u00a0\u007f"},
	} {
		for i, want := range []string{c.text, c.value} {
			if got, at, e := ways[i].tell(c.s); got != want || at != len(c.s) || e != api.OK {
				t.Errorf("%s: %q %q %d %v", ways[i].name, c.s, got, at, e)
			}
		}
	}
}

// P3.1: which error is told, and where, is what stands first.
func TestFirstError(t *testing.T) {
	for _, c := range []struct {
		s    string
		at   int
		want api.Errno
	}{
		{"a&b", 1, api.ErrXml},
		{"<", 0, api.ErrXml},
		{"ab<", 2, api.ErrXml},
		{"\r\n<", 2, api.ErrXml},
		{"&amp;<", 5, api.ErrXml},
		{"&#x1F600;&", 9, api.ErrXml},
		{"\xff<&", 0, api.ErrUtf},
		{"<\xff", 0, api.ErrXml},
		{"a&\xff", 1, api.ErrXml},
		{"a&am\xff;", 1, api.ErrXml},
		{"a&amp;\xff", 6, api.ErrUtf},
		{"a&amp;\xff&", 6, api.ErrUtf},
		{"\r\xff", 1, api.ErrUtf},
		{"a\x00", 1, api.ErrUtf},
		{"a\u00e4\ufffe<", 3, api.ErrUtf},
		{"\ufffd\xef\xbf", 3, api.ErrUtf},
		{"\xed\xa0\x80", 0, api.ErrUtf},
		{"a\xc3", 1, api.ErrUtf},
		{"a\x0b&x", 1, api.ErrUtf},
	} {
		for _, w := range ways {
			if got, at, e := w.tell(c.s); got != "" || at != c.at || e != c.want {
				t.Errorf("%s: %q %q %d %v", w.name, c.s, got, at, e)
			}
		}
	}
}

// P3.2: what is escaped, and what isn't.
func TestEscape(t *testing.T) {
	for _, c := range []struct{ s, text, value string }{
		{"", "", ""},
		{"a", "a", "a"},
		{"&<>", "&amp;&lt;&gt;", "&amp;&lt;&gt;"},
		{"\"'", "\"'", "&quot;'"},
		{"\t\n\r ", "\t\n&#13; ", "&#9;&#10;&#13; "},
		{"\r\n", "&#13;\n", "&#13;&#10;"},
		{"&amp;", "&amp;amp;", "&amp;amp;"},
		{"&#13;", "&amp;#13;", "&amp;#13;"},
		{"]]>", "]]&gt;", "]]&gt;"},
		{"\ufffd\u00e4\U0001F600\u0085", "\ufffd\u00e4\U0001F600\u0085", "\ufffd\u00e4\U0001F600\u0085"},
	} {
		for i, want := range []string{c.text, c.value} {
			if got, e := ways[i].escape(c.s); got != want || e != api.OK {
				t.Errorf("%s: %q %q %v", ways[i].name, c.s, got, e)
			}
		}
	}
}

// wrong are bytes that are of no character that may be.
var wrong = []string{"\x80", "\xbf", "\xc3", "\xc0\x80", "\xc1\xbf", "\xe0\x80\x80", "\xe2\x82", "\xed\xa0\x80", "\xed\xbf\xbf", "\xef\xbf", "\xef\xbf\xbe", "\xef\xbf\xbf", "\xf0\x80\x80\x80", "\xf0\x9f\x98", "\xf4\x90\x80\x80", "\xf8\x88\x80\x80\x80", "\xff", "\x00", "\x0b", "\x1f"}

// P3.1, P3.2: wrong bytes, wherever they stand, aren't taken for the character 65533.
func TestWrongBytes(t *testing.T) {
	for _, x := range wrong {
		for _, ahead := range []string{"", "a", "\ufffd", "&amp;", "\r\n", "\r"} {
			for _, behind := range []string{"", "a", "\ufffd", "<", "&", "\x00"} {
				s := ahead + x + behind
				for _, w := range ways {
					if got, at, e := w.tell(s); got != "" || at != len(ahead) || e != api.ErrUtf {
						t.Errorf("%s: %q tells %q %d %v", w.name, s, got, at, e)
					}
					if got, e := w.escape(s); got != "" || e != api.ErrUtf {
						t.Errorf("%s: %q is escaped %q %v", w.name, s, got, e)
					}
				}
			}
		}
	}
}

// P3.1, P3.2, P3.3: texts of many pieces by chance, right and wrong.
func TestPieces(t *testing.T) {
	r := rand.New(rand.NewSource(1))
	pieces := []string{"a", " ", "\t", "\n", "\r", "\r\n", "\"", "'", ">", "]]>", ";", "#", "\u00e4", "\ufffd", "\U0001F600", "&amp;", "&lt;", "&#9;", "&#10;", "&#xD;", "&#0065;", "&#x1F600;", "<", "&", "\xff"}
	for n := range 40000 {
		l := pieces
		if n%4 > 0 { // most of them right to their ends
			l = pieces[:len(pieces)-3]
		}
		var b strings.Builder
		for range r.Intn(12) {
			b.WriteString(l[r.Intn(len(l))])
		}
		check(t, b.String())
	}
}

// P3.1, P3.2, P3.3: texts of many bytes.
func TestLong(t *testing.T) {
	n := 1 << 19
	for _, c := range []struct{ s, text, value string }{
		{"\u00e4", "\u00e4", "\u00e4"},
		{"&amp;", "&", "&"},
		{"&#x41;\r\n", "A\n", "A "},
	} {
		for i, want := range []string{c.text, c.value} {
			s := strings.Repeat(c.s, n)
			got, at, e := ways[i].tell(s)
			if got != strings.Repeat(want, n) || at != len(s) || e != api.OK {
				t.Errorf("%s: many of %q: %d %v", ways[i].name, c.s, at, e)
			}
			if got, at, e := ways[i].tell(s + "&" + s); got != "" || at != len(s) || e != api.ErrXml {
				t.Errorf("%s: many of %q, and one that is wrong: %d %v", ways[i].name, c.s, at, e)
			}
			back, e := ways[i].escape(got)
			if again, _, f := ways[i].tell(back); again != got || e != api.OK || f != api.OK {
				t.Errorf("%s: many of %q, escaped: %v %v", ways[i].name, c.s, e, f)
			}
		}
	}
}
