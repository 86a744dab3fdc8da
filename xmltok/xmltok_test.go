package xmltok_test

import (
	"bytes"
	"math"
	"math/rand"
	"reflect"
	"slices"
	"strconv"
	"strings"
	"testing"

	"tipstave/api"
	"tipstave/entity"
	"tipstave/testaid"
	"tipstave/xmltok"
)

// check holds what is answered of bytes against the chapter's own forms (forms_test.go), and, if they are right, what is written of them.
func check(t *testing.T, s string) {
	t.Helper()
	want, wat, we := told(s)
	l, at, e := xmltok.Tokens([]byte(s))
	if at != wat || e != we || !alike(l, want) {
		t.Fatalf("%q: %v %d %v, not %v %d %v", s, l, at, e, want, wat, we)
	}
	if at < 0 || at > len(s) { // P6
		t.Fatalf("%q: the place %d", s, at)
	}
	if e == api.OK {
		back(t, joined(l))
	}
}

// alike asks whether tokens are the same, with their places; lists without elements may be nil or not.
func alike(a, b []api.Token) bool {
	return slices.EqualFunc(a, b, func(x, y api.Token) bool {
		return x.Kind == y.Kind && x.At == y.At && x.S == y.S && slices.Equal(x.Attrs, y.Attrs)
	})
}

// joined is a list in which texts one behind the other are one.
func joined(l []api.Token) []api.Token {
	var j []api.Token
	for _, x := range l {
		if n := len(j); n > 0 && x.Kind == api.Text && j[n-1].Kind == api.Text {
			j[n-1].S += x.S
		} else {
			j = append(j, x)
		}
	}
	return j
}

// back asks P4.3: right tokens that are written are read as they were.
func back(t *testing.T, l []api.Token) {
	t.Helper()
	b, n, e := xmltok.Write(l...)
	if n != 0 || e != api.OK || string(b) != written(l) {
		t.Fatalf("%v: written %q %d %v, not %q", l, b, n, e, written(l))
	}
	again, at, e := xmltok.Tokens(b)
	if at != len(b) || e != api.OK || !xmltok.Same(again, l) || !xmltok.Same(l, again) {
		t.Fatalf("%v: written %q, read %v %d %v", l, b, again, at, e)
	}
}

// written is how right tokens are written.
func written(l []api.Token) string {
	s := ""
	for _, x := range l {
		switch x.Kind {
		case api.Text:
			text, _ := entity.EscapeText(x.S)
			s += text
			continue
		case api.Close:
			s += "</" + x.S
		default:
			s += "<" + x.S
		}
		for _, p := range x.Attrs {
			value, _ := entity.EscapeValue(p.Value)
			s += " " + p.Name + `="` + value + `"`
		}
		s += map[int]string{api.Open: ">", api.Close: ">", api.Empty: "/>"}[x.Kind]
	}
	return s
}

// P4.1, P4.3: all texts of few pieces, of which all kinds of tokens begin.
func TestEveryText(t *testing.T) {
	testaid.EveryText([]string{"<", ">", "/", "a", ":", "=", "\"", " ", "?xml", "?", "!", "--", "-", "[CDATA[", "]]", "]", "\r", "&"}, 4, func(s string) { check(t, s) })
}

// P4.1, P4.3: all texts of few pieces behind what each kind begins with, and where nothing of that kind may stand any more.
func TestEveryBehind(t *testing.T) {
	tag := []string{" ", "b", ":", "=", "'", "\"", ">", "/", "<", "1", "&", "\n"}
	for _, ahead := range []string{"<a", "<a b", "<a b=", "<a b='", "<a b='1'", "<a b='1' b='2'", "</a", "t</"} {
		testaid.EveryText(tag, 4, func(s string) { check(t, ahead+s) })
	}
	loose := []string{"-", "--", ">", "->", "]", "]]", "?", "?>", "\r", "\n", "<", "&", "a"}
	for _, ahead := range []string{"<!--", "<a/><!--", "<![CDATA[", "t<![CDATA[", "<?xml ", "<?xml\n", " <?xml ", "<", "<!", "<!-", "<![CDATA"} {
		testaid.EveryText(loose, 4, func(s string) { check(t, ahead+s) })
	}
}

// P4.1: texts of many pieces by chance, most of them right up to near their ends.
func TestPieces(t *testing.T) {
	r := rand.New(rand.NewSource(1))
	pieces := []string{"<a>", "</a>", "<b:c d='1' e:f = \"&lt;'\"\t/>", "<!-- - -->", "<![CDATA[<&\r\n]]]>", "text &amp; \r\n", "\u00e4\ufffd\U0001F600", "<\u00e4.1-\u00b7 />", "]]", "<a\n>", "</a\r\n>",
		" x='1'", "<a", ">", "-->", "]]>", "&", "<?xml?>", "<!-- -- -->", "<a:>", "<a b='1' b='2'/>"}
	for n := range 60000 {
		l := pieces
		if n%4 > 0 {
			l = pieces[:len(pieces)-10]
		}
		s := []string{"", "<?xml version=\"1.0\"?>", "<?xml\t?>\n"}[r.Intn(3)]
		for range r.Intn(10) {
			s += l[r.Intn(len(l))]
		}
		if n%3 == 0 {
			s = s[:r.Intn(len(s)+1)]
		}
		check(t, s)
	}
}

// P4.1: each character of a name, of a text, of a value.
func TestEveryCharacter(t *testing.T) {
	for c := range 0x110000 {
		s := string(rune(c))
		if c >= 0x800 && c%97 != 0 && c&0xfff > 2 && c&0xfff < 0xffd { // what is told changes at the edges alone
			continue
		}
		for _, text := range []string{"<" + s + ">", "<a" + s + ">", "<a " + s + "='1'>", "<a b" + s + "='1'/>", "<a b='" + s + "'/>", "</" + s + ">", "</a" + s + ">", s, "a" + s, "<a b='1'" + s + "='2'>", "<![CDATA[" + s + "]]>", "<!--" + s + "-->"} {
			check(t, text)
		}
	}
}

// P4.1: the chapter's examples, and tokens with all their places.
func TestTokens(t *testing.T) {
	for _, c := range []struct {
		s    string
		want []api.Token
	}{
		{"", nil},
		{"<a b='1'>x&lt;</a>", []api.Token{{Kind: api.Open, S: "a", Attrs: []api.Pair{{At: 3, Name: "b", Value: "1"}}}, {Kind: api.Text, At: 9, S: "x<"}, {Kind: api.Close, At: 14, S: "a"}}},
		{"<?xml version='1.0'?>", nil},
		{"<?xml ?>?>", []api.Token{{Kind: api.Text, At: 8, S: "?>"}}},
		{"<?xml\n<a>-->]]>?>x", []api.Token{{Kind: api.Text, At: 17, S: "x"}}},
		{"<!---->a<!-- > - <b> & -->b", []api.Token{{Kind: api.Text, At: 7, S: "a"}, {Kind: api.Text, At: 26, S: "b"}}},
		{"<!-->-->", nil},
		{"<!--- -->", nil},
		{"<![CDATA[]]>", nil},
		{"<![CDATA[]]]>", []api.Token{{Kind: api.Text, S: "]"}}},
		{"<![CDATA[a]]b]] >]]>", []api.Token{{Kind: api.Text, S: "a]]b]] >"}}},
		{"a<![CDATA[\r\n\r\r\n\n&#13;&amp;<b>--\t]]>\r\n", []api.Token{{Kind: api.Text, S: "a"}, {Kind: api.Text, At: 1, S: "\n\n\n\n&#13;&amp;<b>--\t"}, {Kind: api.Text, At: 35, S: "\n"}}},
		{"\u00e4]]&gt;]>\r\n&#13;", []api.Token{{Kind: api.Text, S: "\u00e4]]>]>\n\r"}}},
		{"\u00e4<\u00e4:b.1-\u00b7 \u00df='\u00e4'/>", []api.Token{{Kind: api.Text, S: "\u00e4"}, {Kind: api.Empty, At: 2, S: "\u00e4:b.1-\u00b7", Attrs: []api.Pair{{At: 13, Name: "\u00df", Value: "\u00e4"}}}}},
		{"<a\t/></a\r\n ></b>", []api.Token{{Kind: api.Empty, S: "a"}, {Kind: api.Close, At: 5, S: "a"}, {Kind: api.Close, At: 12, S: "b"}}},
		{"<a b = '\"\r\n>/' c\n=\n\"'\t&#10;&quot;\" >", []api.Token{{Kind: api.Open, S: "a", Attrs: []api.Pair{{At: 3, Name: "b", Value: "\" >/"}, {At: 15, Name: "c", Value: "' \n\""}}}}},
		{"<a b='' x:b='' B=''/>", []api.Token{{Kind: api.Empty, S: "a", Attrs: []api.Pair{{At: 3, Name: "b"}, {At: 8, Name: "x:b"}, {At: 15, Name: "B"}}}}},
		{"<a b='1'/><a b='2'/>", []api.Token{{Kind: api.Empty, S: "a", Attrs: []api.Pair{{At: 3, Name: "b", Value: "1"}}}, {Kind: api.Empty, At: 10, S: "a", Attrs: []api.Pair{{At: 13, Name: "b", Value: "2"}}}}},
		{"<xml/>", []api.Token{{Kind: api.Empty, S: "xml"}}},
		{"?>-->\"'=/", []api.Token{{Kind: api.Text, S: "?>-->\"'=/"}}},
	} {
		l, at, e := xmltok.Tokens([]byte(c.s))
		if at != len(c.s) || e != api.OK || !alike(l, c.want) {
			t.Errorf("%q: %v %d %v", c.s, l, at, e)
		}
		check(t, c.s)
	}
}

// P4.1: each error, at its place, and that which is ahead.
func TestWrong(t *testing.T) {
	for _, c := range []struct {
		s    string
		at   int
		want api.Errno
	}{
		{"<!DOCTYPE a>", 0, api.ErrXml},
		{"<a b=\"1\" b=\"2\"/>", 9, api.ErrTwice},

		{"<?xml ", 6, api.ErrShort}, {"<?xml version='1.0'? >", 22, api.ErrShort}, {"<?xml\u00a0?>", 0, api.ErrXml}, {"<?xml", 0, api.ErrXml}, {"<?xml?>", 0, api.ErrXml}, {"<?xmlx ?>", 0, api.ErrXml}, {"<?XML ?>", 0, api.ErrXml}, {"\n<?xml ?>", 1, api.ErrXml}, {"\ufeff<?xml ?>", 3, api.ErrXml}, {"<?xml ?><?xml ?>", 8, api.ErrXml}, {"<?", 0, api.ErrXml}, {"a<?b?>", 1, api.ErrXml},

		{"<!--", 4, api.ErrShort}, {"<!--->", 6, api.ErrShort}, {"<!-- -", 6, api.ErrShort}, {"<!-- --", 7, api.ErrShort}, {"<!---- >", 4, api.ErrXml}, {"<!----->", 4, api.ErrXml}, {"<!-- a--->", 6, api.ErrXml}, {"<!-- -- --", 5, api.ErrXml}, {"<a/><!-- --<-->", 9, api.ErrXml}, {"<!-", 0, api.ErrXml}, {"<!- -->", 0, api.ErrXml}, {"<!", 0, api.ErrXml},

		{"<![CDATA[", 9, api.ErrShort}, {"<![CDATA[]]", 11, api.ErrShort}, {"<![CDATA[]>", 11, api.ErrShort}, {"<![CDATA", 0, api.ErrXml}, {"<![cdata[]]>", 0, api.ErrXml}, {"<![CDATA []]>", 0, api.ErrXml},

		{"]]>", 0, api.ErrXml}, {"a]]]>", 2, api.ErrXml}, {"a<b/>c]]>", 6, api.ErrXml}, {"a&b;]]>", 1, api.ErrXml}, {"]]>&b;", 0, api.ErrXml}, {"&am]]>p;", 0, api.ErrXml}, {"<a>&</a>", 3, api.ErrXml}, {"&amp", 0, api.ErrXml}, {"&amp<a>;", 0, api.ErrXml}, {"&#0;", 0, api.ErrXml}, {"\u00e4&#xD800;", 2, api.ErrXml}, {"&amp;&", 5, api.ErrXml},

		{"<", 1, api.ErrShort}, {"</", 2, api.ErrShort}, {"<a", 2, api.ErrShort}, {"<a ", 3, api.ErrShort}, {"<a/", 3, api.ErrShort}, {"<a b", 4, api.ErrShort}, {"<a b ", 5, api.ErrShort}, {"<a b=", 5, api.ErrShort}, {"<a b= ", 6, api.ErrShort}, {"<a b='", 6, api.ErrShort}, {"<a b='1", 7, api.ErrShort}, {"<a b='1\">", 9, api.ErrShort}, {"<a b=\"1'>", 9, api.ErrShort}, {"<a b='1'", 8, api.ErrShort}, {"<a b='1' ", 9, api.ErrShort}, {"<a b='1'/", 9, api.ErrShort}, {"</a", 3, api.ErrShort}, {"</a ", 4, api.ErrShort}, {"<a><b>t</b><c", 13, api.ErrShort},

		{"<<a>", 1, api.ErrXml}, {"<>", 1, api.ErrXml}, {"</>", 2, api.ErrXml}, {"< a>", 1, api.ErrXml}, {"</ a>", 2, api.ErrXml}, {"<-a>", 1, api.ErrXml}, {"<.a>", 1, api.ErrXml}, {"<\u00b7>", 1, api.ErrXml}, {"<a<b>", 2, api.ErrXml}, {"<a$>", 2, api.ErrXml}, {"</a/>", 3, api.ErrXml}, {"</a b='1'>", 4, api.ErrXml}, {"</a<", 3, api.ErrXml}, {"<a//>", 3, api.ErrXml}, {"<a/ >", 3, api.ErrXml}, {"<a/b>", 3, api.ErrXml}, {"<a =>", 3, api.ErrXml}, {"<a='1'>", 2, api.ErrXml}, {"<a '1'>", 3, api.ErrXml}, {"<a b/>", 4, api.ErrXml}, {"<a b c='1'>", 5, api.ErrXml}, {"<a b'1'>", 4, api.ErrXml}, {"<a b==>", 5, api.ErrXml}, {"<a b=>", 5, api.ErrXml}, {"<a b=1>", 5, api.ErrXml}, {"<a b='1''2'>", 8, api.ErrXml}, {"<a b='1'2>", 8, api.ErrXml}, {"<a b='1' 2>", 9, api.ErrXml}, {"<a b='1'=>", 8, api.ErrXml},

		{"<a b='1'c='2'>", 8, api.ErrXml}, {"<a b='1'b='2'>", 8, api.ErrXml}, {"<a b='1':>", 8, api.ErrXml}, {"<a b='1'c", 8, api.ErrXml}, {"<a b='1'c:='2'>", 8, api.ErrXml}, {"<a b=\"'\"c>", 8, api.ErrXml},

		{"<a b='<'>", 6, api.ErrXml}, {"<a b='<", 6, api.ErrXml}, {"<a b='&'>", 6, api.ErrXml}, {"<a b='&amp'>", 6, api.ErrXml}, {"<a b='12&", 8, api.ErrXml}, {"<a b='&amp", 6, api.ErrXml}, {"<a b='\u00e4&#0;'>", 8, api.ErrXml}, {"<a b='1><c d='2'>", 8, api.ErrXml}, {"<a b='1' c='1' b='<'>", 15, api.ErrTwice},

		{"<:>", 1, api.ErrName}, {"<:", 1, api.ErrName}, {"<a:", 1, api.ErrName}, {"<a:/>", 1, api.ErrName}, {"<:a/>", 1, api.ErrName}, {"<a:b:c/>", 1, api.ErrName}, {"<a::b/>", 1, api.ErrName}, {"<a:1/>", 1, api.ErrName}, {"<a:-b/>", 1, api.ErrName}, {"</a:>", 2, api.ErrName}, {"</a:b:c", 2, api.ErrName}, {"<a b:='1'>", 3, api.ErrName}, {"<a b='1' :c='1' :c='1'>", 9, api.ErrName}, {"<a :", 3, api.ErrName}, {"<a x:y:z =", 3, api.ErrName}, {"<a:$>", 1, api.ErrName},

		{"<a b='1' b", 9, api.ErrTwice}, {"<a b='1' c='2' b = '1'/>", 15, api.ErrTwice}, {"<a x:b='1' x:b='1'>", 11, api.ErrTwice}, {"<a b='1' b=<", 9, api.ErrTwice}, {"<a xmlns='1' xmlns='1'>", 13, api.ErrTwice}, {"<a b='1' b$", 9, api.ErrTwice},
	} {
		l, at, e := xmltok.Tokens([]byte(c.s))
		if len(l) != 0 || at != c.at || e != c.want {
			t.Errorf("%q: %v %d %v, not %d %v", c.s, l, at, e, c.at, c.want)
		}
		check(t, c.s)
	}
}

// P4.1: bytes that are of no character that may be go ahead of all else, wherever they stand.
func TestWrongBytes(t *testing.T) {
	for _, x := range []string{"\x80", "\xc3", "\xc0\x80", "\xed\xa0\x80", "\xef\xbf\xbe", "\xef\xbf", "\xf4\x90\x80\x80", "\xff", "\x00", "\x0b", "\x1f"} {
		for _, ahead := range []string{"", "a", "<", "<a", "</a", "<a ", "<a b='", "<a b='1' b='2'>", "&", "]]>", "<!--", "<!-- -- ", "<![CDATA[", "<?xml ", "<?", "<!", "<a:>", "\ufffd"} {
			for _, behind := range []string{"", "a", ">", "<", "&", "\xff"} {
				s := ahead + x + behind
				if l, at, e := xmltok.Tokens([]byte(s)); len(l) != 0 || at != len(ahead) || e != api.ErrUtf {
					t.Errorf("%q: %v %d %v", s, l, at, e)
				}
			}
		}
	}
}

// P4.1: as many bytes as may be, and one more, that goes ahead of all else.
func TestMaxBytes(t *testing.T) {
	b := bytes.Repeat([]byte("a"), api.MaxBytes+1)
	if l, at, e := xmltok.Tokens(b[:api.MaxBytes]); len(l) != 1 || len(l[0].S) != api.MaxBytes || at != api.MaxBytes || e != api.OK {
		t.Errorf("%d tokens %d %v", len(l), at, e)
	}
	for _, ahead := range []string{"a", "\xff", "<", "<!"} {
		copy(b, ahead)
		if l, at, e := xmltok.Tokens(b); len(l) != 0 || at != 0 || e != api.ErrLong {
			t.Errorf("%q: %d tokens %d %v", ahead, len(l), at, e)
		}
	}
}

// P4.1, P4.3: very many tokens, attributes, and names that are very long are read, and written, in a time that goes with their bytes.
func TestLong(t *testing.T) {
	n := 1 << 18
	var many strings.Builder
	var pairs []api.Pair
	for i := range n {
		name := "a" + strconv.Itoa(i)
		pairs = append(pairs, api.Pair{At: many.Len() + 3, Name: name, Value: "1"})
		many.WriteString(" " + name + "='1'")
	}
	for _, c := range []struct {
		s    string
		want int
	}{
		{strings.Repeat("<a>x&amp;y</a>", n), 3 * n},
		{strings.Repeat("x<![CDATA[\r\n]]></a>", n), 3 * n},
		{strings.Repeat("<!-- - --><a\n/>", n), n},
		{strings.Repeat("<a b='&lt;\r\n'/>", n), n},
		{"<" + strings.Repeat("\u00e4", 1<<22) + "/>", 1},
		{"<a b='" + strings.Repeat("&#10;", 1<<21) + "'/>", 1},
		{"<b" + many.String() + "/>", 1},
	} {
		l, at, e := xmltok.Tokens([]byte(c.s))
		if len(l) != c.want || at != len(c.s) || e != api.OK {
			t.Fatalf("%.40q ..: %d tokens %d %v", c.s, len(l), at, e)
		}
		j := joined(l)
		b, wrong, e := xmltok.Write(j...)
		again, at, f := xmltok.Tokens(b)
		if wrong != 0 || e != api.OK || at != len(b) || f != api.OK || !xmltok.Same(j, again) {
			t.Fatalf("%.40q ..: %d %v, read again %d %v", c.s, wrong, e, at, f)
		}
		if x := l[0]; len(x.Attrs) == n && !slices.Equal(x.Attrs, pairs) {
			t.Error("attributes")
		}
		if l, at, e := xmltok.Tokens([]byte(c.s + "<")); len(l) != 0 || at != len(c.s)+1 || e != api.ErrShort {
			t.Errorf("%.40q .. <: %d tokens %d %v", c.s, len(l), at, e)
		}
	}
}

// P4.2: what is written of tokens, in any order.
func TestWrite(t *testing.T) {
	for _, c := range []struct {
		l    []api.Token
		want string
	}{
		{nil, ""},
		{[]api.Token{{Kind: api.Text, S: " "}}, " "},
		{[]api.Token{{Kind: api.Text, S: "a&<>\"'\t\n\r]]>\u00e4"}}, "a&amp;&lt;&gt;\"'\t\n&#13;]]&gt;\u00e4"},
		{[]api.Token{{Kind: api.Open, S: "a"}, {Kind: api.Close, S: "a"}}, "<a></a>"},
		{[]api.Token{{Kind: api.Close, S: "b:c"}, {Kind: api.Empty, S: "a"}, {Kind: api.Open, S: "\u00e4:b.1-"}}, "</b:c><a/><\u00e4:b.1->"},
		{[]api.Token{{Kind: api.Empty, S: "a", Attrs: []api.Pair{{Name: "b", Value: ""}, {At: 7, Name: "x:b", Value: "&<>\"'\t\n\r \u00e4"}}}}, "<a b=\"\" x:b=\"&amp;&lt;&gt;&quot;'&#9;&#10;&#13; \u00e4\"/>"},
		{[]api.Token{{Kind: api.Open, At: -1, S: "xmlns", Attrs: []api.Pair{{At: math.MinInt, Name: "xmlns:xml", Value: "u"}, {At: math.MaxInt, Name: "xmlns", Value: "v"}}}}, "<xmlns xmlns:xml=\"u\" xmlns=\"v\">"},
		{[]api.Token{{Kind: api.Text, S: "a"}, {Kind: api.Empty, S: "b"}, {Kind: api.Text, S: "a"}, {Kind: api.Close, S: "b", Attrs: []api.Pair{}}, {Kind: api.Text, S: "c", Attrs: []api.Pair{}}}, "a<b/>a</b>c"},
		{[]api.Token{{Kind: api.Open, S: "a", Attrs: []api.Pair{{Name: "b", Value: "1"}}}, {Kind: api.Open, S: "a", Attrs: []api.Pair{{Name: "b", Value: "2"}}}}, "<a b=\"1\"><a b=\"2\">"},
	} {
		b, n, e := xmltok.Write(c.l...)
		if string(b) != c.want || n != 0 || e != api.OK {
			t.Errorf("%v: %q %d %v", c.l, b, n, e)
		}
		back(t, c.l)
	}
}

// P4.2: what is wrong with a token, what goes ahead of what, and that the first wrong one is told.
func TestWriteWrong(t *testing.T) {
	bad := "\x01"
	for _, c := range []struct {
		x    api.Token
		want api.Errno
	}{
		{api.Token{Kind: -1, S: "a"}, api.ErrArg}, {api.Token{Kind: 4, S: "a"}, api.ErrArg}, {api.Token{Kind: math.MinInt, S: bad}, api.ErrArg}, {api.Token{Kind: math.MaxInt, S: "a", Attrs: []api.Pair{{Name: "1"}}}, api.ErrArg}, {api.Token{Kind: 256}, api.ErrArg}, {api.Token{Kind: 1 << 32, S: "a"}, api.ErrArg},

		{api.Token{Kind: api.Text}, api.ErrArg}, {api.Token{Kind: api.Text, S: "a", Attrs: []api.Pair{{Name: "b"}}}, api.ErrArg}, {api.Token{Kind: api.Text, S: bad, Attrs: []api.Pair{{Name: "1"}}}, api.ErrArg}, {api.Token{Kind: api.Text, S: bad}, api.ErrUtf}, {api.Token{Kind: api.Text, S: "a\xff"}, api.ErrUtf}, {api.Token{Kind: api.Text, S: "\ufffe"}, api.ErrUtf},

		{api.Token{Kind: api.Open}, api.ErrName}, {api.Token{Kind: api.Open, S: "a b"}, api.ErrName}, {api.Token{Kind: api.Open, S: "a:b:c"}, api.ErrName}, {api.Token{Kind: api.Empty, S: ":a"}, api.ErrName}, {api.Token{Kind: api.Empty, S: "a\xff"}, api.ErrName}, {api.Token{Kind: api.Close, S: "1"}, api.ErrName}, {api.Token{Kind: api.Close}, api.ErrName},

		{api.Token{Kind: api.Close, S: "a", Attrs: []api.Pair{{Name: "b"}}}, api.ErrArg}, {api.Token{Kind: api.Close, S: "a", Attrs: []api.Pair{{Name: "1"}}}, api.ErrArg}, {api.Token{Kind: api.Close, S: "1", Attrs: []api.Pair{{Name: "b"}}}, api.ErrName},

		{api.Token{Kind: api.Open, S: "a", Attrs: []api.Pair{{Name: ""}}}, api.ErrName}, {api.Token{Kind: api.Empty, S: "a", Attrs: []api.Pair{{Name: "b"}, {Name: "c d"}}}, api.ErrName}, {api.Token{Kind: api.Open, S: "a b", Attrs: []api.Pair{{Name: "b", Value: bad}}}, api.ErrName}, {api.Token{Kind: api.Empty, S: "a", Attrs: []api.Pair{{Name: "b", Value: "\xc3"}}}, api.ErrUtf},
		{api.Token{Kind: api.Open, S: "a", Attrs: []api.Pair{{Name: "b"}, {Name: "c"}, {Name: "b", Value: bad}}}, api.ErrTwice}, {api.Token{Kind: api.Empty, S: "a", Attrs: []api.Pair{{Name: "b", Value: "1"}, {Name: "b", Value: "1"}}}, api.ErrTwice}, {api.Token{Kind: api.Open, S: "a", Attrs: []api.Pair{{Name: "1", Value: bad}, {Name: "1", Value: bad}}}, api.ErrName},
		{api.Token{Kind: api.Open, S: "a", Attrs: []api.Pair{{Name: "b", Value: bad}, {Name: "1"}}}, api.ErrUtf}, {api.Token{Kind: api.Open, S: "a", Attrs: []api.Pair{{Name: "b"}, {Name: "1"}, {Name: "b"}}}, api.ErrName}, {api.Token{Kind: api.Open, S: "a", Attrs: []api.Pair{{Name: "b"}, {Name: "b"}, {Name: "1"}}}, api.ErrTwice},
	} {
		ahead := []api.Token{{Kind: api.Text, S: "t"}, {Kind: api.Open, S: "o", Attrs: []api.Pair{{Name: "b"}}}}
		for n := range 3 {
			for _, behind := range []api.Token{{Kind: api.Close, S: "o"}, {Kind: 9}, {Kind: api.Text}, {S: "1"}} {
				l := append(slices.Clone(ahead[:n]), c.x, behind)
				if n == 1 && c.x.Kind == api.Text && c.want != api.ErrArg { // it is behind another text there
					continue
				}
				if b, at, e := xmltok.Write(l...); len(b) != 0 || at != n || e != c.want {
					t.Errorf("%v: %q %d %v, not %d %v", l, b, at, e, n, c.want)
				}
			}
		}
	}
}

// P4.2: a text behind another one is ErrArg, at the second, even if its characters are wrong.
func TestWriteTexts(t *testing.T) {
	a := api.Token{Kind: api.Text, S: "a"}
	for _, x := range []api.Token{a, {Kind: api.Text, S: " "}, {Kind: api.Text, S: "\xff"}, {Kind: api.Text}} {
		if b, at, e := xmltok.Write(a, x); len(b) != 0 || at != 1 || e != api.ErrArg {
			t.Errorf("%v: %q %d %v", x, b, at, e)
		}
		if b, at, e := xmltok.Write(api.Token{S: "o"}, a, api.Token{S: "o"}, a, x); len(b) != 0 || at != 4 || e != api.ErrArg {
			t.Errorf("%v: %q %d %v", x, b, at, e)
		}
	}
}

// P4.2: each thing by which tokens may be other ones, and places, by which they aren't.
func TestSame(t *testing.T) {
	base := func() []api.Token {
		return []api.Token{{Kind: api.Open, At: 1, S: "a", Attrs: []api.Pair{{At: 2, Name: "b", Value: "1"}, {At: 3, Name: "c", Value: "2"}}}, {Kind: api.Text, At: 4, S: "t"}, {Kind: api.Close, At: 5, S: "a"}}
	}
	for i, c := range []struct {
		change func(l []api.Token) []api.Token
		want   bool
	}{
		{func(l []api.Token) []api.Token { return l }, true},
		{func(l []api.Token) []api.Token { l[0].At, l[2].At = -7, math.MaxInt; return l }, true},
		{func(l []api.Token) []api.Token { l[0].Attrs[0].At = 9; return l }, true},
		{func(l []api.Token) []api.Token { l[1].Attrs = []api.Pair{}; return l }, true},
		{func(l []api.Token) []api.Token { l[0].Kind = api.Empty; return l }, false},
		{func(l []api.Token) []api.Token { l[2].Kind = 77; return l }, false},
		{func(l []api.Token) []api.Token { l[1].S = "T"; return l }, false},
		{func(l []api.Token) []api.Token { l[1].S = ""; return l }, false},
		{func(l []api.Token) []api.Token { l[2].S = "b"; return l }, false},
		{func(l []api.Token) []api.Token { l[0].Attrs[1].Name = "d"; return l }, false},
		{func(l []api.Token) []api.Token { l[0].Attrs[0].Value = ""; return l }, false},
		{func(l []api.Token) []api.Token { l[0].Attrs[1].Value = "1"; return l }, false},
		{func(l []api.Token) []api.Token { l[0].Attrs = l[0].Attrs[:1]; return l }, false},
		{func(l []api.Token) []api.Token { l[0].Attrs = append(l[0].Attrs, api.Pair{}); return l }, false},
		{func(l []api.Token) []api.Token { slices.Reverse(l[0].Attrs); return l }, false},
		{func(l []api.Token) []api.Token { l[2].Attrs = []api.Pair{{}}; return l }, false},
		{func(l []api.Token) []api.Token { slices.Reverse(l); return l }, false},
		{func(l []api.Token) []api.Token { return l[:2] }, false},
		{func(l []api.Token) []api.Token { return l[1:] }, false},
		{func(l []api.Token) []api.Token { return append(l, api.Token{}) }, false},
		{func(l []api.Token) []api.Token { return nil }, false},
	} {
		other := c.change(base())
		if xmltok.Same(base(), other) != c.want || xmltok.Same(other, base()) != c.want {
			t.Errorf("%d: %v isn't %v", i, other, c.want)
		}
	}
	odd := []api.Token{{Kind: math.MinInt, S: "\xff", Attrs: []api.Pair{{Name: "\xff"}, {Name: "\xff"}}}}
	if !xmltok.Same(nil, []api.Token{}) || !xmltok.Same(nil, nil) || !xmltok.Same(odd, slices.Clone(odd)) {
		t.Error("tokens aren't the same as themselves")
	}
	if xmltok.Same(odd, []api.Token{{Kind: math.MinInt, S: "\xfe", Attrs: odd[0].Attrs}}) {
		t.Error("other bytes are the same")
	}
}

// P4.3: right tokens by chance are read as they were.
func TestBack(t *testing.T) {
	r := rand.New(rand.NewSource(2))
	some := func(l []string) string { return l[r.Intn(len(l))] }
	names := []string{"a", "b", "x:a", "\u00e4.1-\u00b7", "xmlns", "xmlns:p", "_", "xml"}
	pieces := []string{"a", " ", "\t", "\n", "\r", "\r\n", "\"", "'", ">", "]]>", "]]", "&", "&amp;", "<", "<a>", "-->", "<!--", "<![CDATA[", "<?xml ?>", "?>", "\u00e4", "\ufffd", "\U0001F600", "/", "="}
	text := func(least int) string {
		s := ""
		for range least + r.Intn(4) {
			s += some(pieces)
		}
		return s
	}
	for range 20000 {
		var l []api.Token
		for range r.Intn(6) {
			x := api.Token{Kind: r.Intn(4), S: some(names)}
			if x.Kind == api.Text {
				x.S = text(1)
			} else if x.Kind != api.Close {
				for _, name := range names[:r.Intn(len(names))] {
					x.Attrs = append(x.Attrs, api.Pair{Name: name, Value: text(0)})
				}
				r.Shuffle(len(x.Attrs), func(i, j int) { x.Attrs[i], x.Attrs[j] = x.Attrs[j], x.Attrs[i] })
			}
			l = append(l, x)
		}
		back(t, joined(l))
	}
}

// Rules 2, 4: what is handed in isn't changed, what lies behind it isn't read, and what is answered is new.
func TestLists(t *testing.T) {
	s := "<a b='1' c='2'>x<![CDATA[y]]></a><d e='3'/>"
	b := []byte(s + "x>'\"")
	l, at, e := xmltok.Tokens(b[:len(s)])
	other, _, _ := xmltok.Tokens(b[:len(s)])
	if at != len(s) || e != api.OK || string(b) != s+"x>'\"" {
		t.Fatalf("%d %v %q", at, e, b)
	}
	for i := range b {
		b[i] = '#'
	}
	want, _, _ := told(s)
	if !alike(l, want) {
		t.Errorf("it hangs on the bytes: %v", l)
	}
	for i := range l { // behind each list's length, too
		l[i].Attrs = append(l[i].Attrs, api.Pair{Name: "z"})
		l[i].Attrs[0].Name = "y"
	}
	if !alike(other, want) {
		t.Errorf("it hangs on another answer: %v", other)
	}
	for i, x := range l {
		if len(x.Attrs) != len(want[i].Attrs)+1 {
			t.Errorf("attributes of one hang on another's: %v", l)
		}
	}
	for _, s := range []string{"<a", "<a b='1'", "<!-- -", "<![CDATA[x]", "<?xml ?"} {
		b := []byte(s + "]>-->?>")
		if l, at, e := xmltok.Tokens(b[:len(s)]); len(l) != 0 || at != len(s) || e != api.ErrShort {
			t.Errorf("%q: %v %d %v", s, l, at, e)
		}
	}
}

// Rules 2, 4: what is handed to Write isn't changed, and what it answers is new.
func TestWriteLists(t *testing.T) {
	fresh := func() []api.Token {
		return []api.Token{{At: 3, S: "a", Attrs: []api.Pair{{At: 4, Name: "b", Value: "<\r\n"}}}, {Kind: api.Text, S: "t"}, {Kind: 9}}
	}
	l := fresh()
	one, _, _ := xmltok.Write(l[:2]...)
	two, _, _ := xmltok.Write(l[:2]...)
	for i := range one {
		one[i] = '#'
	}
	if string(two) != written(l[:2]) {
		t.Errorf("it hangs on another answer: %q", two)
	}
	l[0].S, l[0].Attrs[0].Value = "x", "y"
	if string(two) != written(fresh()[:2]) {
		t.Errorf("it hangs on the tokens: %q", two)
	}
	l = fresh()
	if b, at, e := xmltok.Write(l...); len(b) != 0 || at != 2 || e != api.ErrArg || !reflect.DeepEqual(l, fresh()) {
		t.Errorf("%q %d %v %v", b, at, e, l)
	}
}
