package xmltree_test

import (
	"bytes"
	"math"
	"math/rand"
	"reflect"
	"runtime/debug"
	"slices"
	"strconv"
	"strings"
	"testing"

	"tipstave/api"
	"tipstave/testaid"
	"tipstave/xmltok"
	"tipstave/xmltree"
)

// check holds what Build answers against the chapter (told_test.go).
func check(t *testing.T, l []api.Token, end int) {
	t.Helper()
	want, wat, we := told(l, end)
	n, at, e := xmltree.Build(l, end)
	if testaid.Node(n) != testaid.Node(want) || at != wat || e != we {
		t.Fatalf("%v, %d: %s %d %v, not %s %d %v", l, end, testaid.Node(n), at, e, testaid.Node(want), wat, we)
	}
	if !xmltree.Same(n, want) || !xmltree.Same(want, n) {
		t.Fatalf("%v: not the same as itself: %s", l, testaid.Node(n))
	}
}

// checkBytes holds what Read answers against layer 4's answer, and the chapter's of that.
func checkBytes(t *testing.T, s string) {
	t.Helper()
	l, wat, we := xmltok.Tokens([]byte(s))
	var want api.Node
	if we == api.OK {
		want, wat, we = told(l, len(s))
	}
	n, at, e := xmltree.Read([]byte(s))
	if testaid.Node(n) != testaid.Node(want) || at != wat || e != we {
		t.Fatalf("%q: %s %d %v, not %s %d %v", s, testaid.Node(n), at, e, testaid.Node(want), wat, we)
	}
	if at < 0 || at > len(s) { // P6
		t.Fatalf("%q: the place %d", s, at)
	}
}

// P5.1, P5.2: what right bytes tell, with all places.
func TestRead(t *testing.T) {
	for _, c := range []struct{ s, want string }{
		{"<a/>", "a@0"},
		{"<a></a>", "a@0"},
		{"<a  />", "a@0"},
		{" \t\r\n<a/>\n<!-- c -->\n", "a@4"},
		{"<?xml version='1.0'?><a/>", "a@21"},
		{"&#32;<![CDATA[\n]]><a/>&#9;<![CDATA[ ]]>", "a@18"},
		{"<a xmlns=\"u\"><b/>t</a>", "{u}a@0({u}b@13, \"t\"@17)"},

		{"<a> </a>", "a@0(\" \"@3)"},
		{"<a>x<b>y<c/>z</b>w</a>", "a@0(\"x\"@3, b@4(\"y\"@7, c@8, \"z\"@12), \"w\"@17)"},
		{"<a><b></b><b/></a >", "a@0(b@3, b@10)"},
		{"<a>x&lt;<![CDATA[<b>]]>y</a>", "a@0(\"x<<b>y\"@3)"},
		{"<a><![CDATA[]]></a>", "a@0"},
		{"<a><!-- c --><![CDATA[]]>x<!-- d -->y<![CDATA[]]><![CDATA[z]]></a>", "a@0(\"xyz\"@25)"},
		{"<a>x<b/>y<b/><!-- c -->z</a>", "a@0(\"x\"@3, b@4, \"y\"@8, b@9, \"z\"@23)"},

		{"<a b='1' c='2'/>", "a@0[b=1, c=2]"},
		{"<a b='&lt;' B=''/>", "a@0[b=<, B=]"},
		{"<a xmlns='u' b='1'/>", "{u}a@0[b=1]"},
		{"<a b='1' xmlns='u' c='2' xmlns:p='v' p:b='3'/>", "{u}a@0[b=1, c=2, {v}b=3]"},
		{"<p:a p:b='1' xmlns:p='u'/>", "{u}a@0[{u}b=1]"},
		{"<p:a xmlns:p='u'><p:b/><b/></p:a>", "{u}a@0({u}b@17, b@23)"},
		{"<a xmlns='u'><b xmlns='v'><c/></b><b/></a>", "{u}a@0({v}b@13({v}c@26), {u}b@34)"},
		{"<a xmlns='u'><b xmlns=''><c/></b><b/></a>", "{u}a@0(b@13(c@25), {u}b@33)"},
		{"<a xmlns:p='u'><p:b xmlns:p='v'><p:c p:x='1'/></p:b><p:b p:x='1'/></a>", "a@0({v}b@15({v}c@32[{v}x=1]), {u}b@52[{u}x=1])"},
		{"<a><b xmlns='u'/><b xmlns='v'/><b/></a>", "a@0({u}b@3, {v}b@17, b@31)"},
		{"<a xmlns:p='u'><b xmlns:q='v'><p:c q:x='1'/></b><p:b/></a>", "a@0(b@15({u}c@30[{v}x=1]), {u}b@48)"},
		{"<a xmlns=''/>", "a@0"},

		{"<a xml:lang='de' xml:b='1'/>", "a@0[{" + xmlSpace + "}lang=de, {" + xmlSpace + "}b=1]"},
		{"<xml:a/>", "{" + xmlSpace + "}a@0"},
		{"<xml/>", "xml@0"},
		{"<xmlns xml='1'/>", "xmlns@0[xml=1]"},
		{"<a xmlns:p='u' p:xmlns='1' xmlnsp='2'/>", "a@0[{u}xmlns=1, xmlnsp=2]"},
		{"<a xmlns:XML='u' XML:b='1' xmlns:_='u' _:c='2'/>", "a@0[{u}b=1, {u}c=2]"},
		{"<a xmlns='xml' xmlns:p='xmlns' p:b='1'/>", "{xml}a@0[{xmlns}b=1]"},
		{"<a xmlns='http://www.w3.org/2000/xmlns' xmlns:p='http://www.w3.org/xml/1998/namespace' p:b='1'/>", "{http://www.w3.org/2000/xmlns}a@0[{http://www.w3.org/xml/1998/namespace}b=1]"},
		{"<a xmlns=' ' xmlns:p='&#10;' p:b='1'/>", "{ }a@0[{\n}b=1]"},

		{"<a xmlns='u' xmlns:p='u' b='1' p:b='2'/>", "{u}a@0[b=1, {u}b=2]"},
		{"<a xmlns:p='u' xmlns:q='v' p:b='1' q:b='2'/>", "a@0[{u}b=1, {v}b=2]"},
		{"<a xmlns:p='u' xmlns:q='u' p:b='1' q:c='2'/>", "a@0[{u}b=1, {u}c=2]"},
		{"<p:a xmlns:p='u' xmlns:q='u' xmlns='u'><q:b/><c/></p:a>", "{u}a@0({u}b@39, {u}c@45)"},
	} {
		n, at, e := xmltree.Read([]byte(c.s))
		if testaid.Node(n) != c.want || at != len(c.s) || e != api.OK {
			t.Errorf("%q: %s %d %v, not %s", c.s, testaid.Node(n), at, e, c.want)
		}
		checkBytes(t, c.s)
	}
}

// P5.1: each error, its place, and what goes ahead of what.
func TestWrong(t *testing.T) {
	type row struct {
		s    string
		at   int
		want api.Errno
	}
	deep := func(n int) string { return strings.Repeat("<a>", n) }
	for _, c := range []row{
		{"t<a/>", 0, api.ErrXml}, {" t<a/>", 0, api.ErrXml}, {" <!-- c -->t", 11, api.ErrXml}, {"<a/>t", 4, api.ErrXml}, {"<a></a> \n t", 7, api.ErrXml}, {"<a/> <![CDATA[ ]]><![CDATA[t]]>", 18, api.ErrXml}, {"\u00a0<a/>", 0, api.ErrXml}, {"\u0085<a/>", 0, api.ErrXml}, {"\u2003<a/>", 0, api.ErrXml}, {"\u3000<a/>", 0, api.ErrXml}, {"\ufeff<a/>", 0, api.ErrXml}, {"&#160;<a/>", 0, api.ErrXml},

		{"<a/><b/>", 4, api.ErrXml}, {"<a/> <a>", 5, api.ErrXml}, {"<a></a><a/>", 7, api.ErrXml}, {"<a/><p:b/>", 4, api.ErrXml}, {"<a/><b xmlns:p=''/>", 4, api.ErrXml}, {"<a/><b p:c='1'/>", 4, api.ErrXml}, {"<a/>t<b/>", 4, api.ErrXml}, {"<a/><b/>t", 4, api.ErrXml},

		{deep(200) + "<a/>", 600, api.ErrDeep}, {deep(201), 600, api.ErrDeep}, {deep(200) + " t<p:a/>", 602, api.ErrDeep}, {deep(200) + "<a xmlns:p=''/>", 600, api.ErrDeep}, {deep(200) + "<p:a/>", 600, api.ErrDeep}, {deep(200) + "<a p:b='1'/>", 600, api.ErrDeep}, {deep(199) + "<a></a><a/><a><a/>", 199*3 + 14, api.ErrDeep}, {deep(200) + "</b>", 600, api.ErrXml}, {deep(200), 600, api.ErrShort},

		{"<a xmlns:xml='u'/>", 3, api.ErrArg}, {"<a xmlns:xml='" + xmlSpace + "'/>", 3, api.ErrArg}, {"<a xmlns:xml=''/>", 3, api.ErrArg}, {"<a xmlns:xmlns='u'/>", 3, api.ErrArg}, {"<a xmlns:xmlns='" + xmlnsSpace + "'/>", 3, api.ErrArg}, {"<a xmlns:p=''/>", 3, api.ErrArg}, {"<a xmlns:p='" + xmlSpace + "'/>", 3, api.ErrArg}, {"<a xmlns:p='" + xmlnsSpace + "'/>", 3, api.ErrArg}, {"<a xmlns='" + xmlSpace + "'/>", 3, api.ErrArg}, {"<a xmlns='" + xmlnsSpace + "'/>", 3, api.ErrArg}, {"<a xmlns:p='http://www.w3.org/XML/1998/n&#97;mespace'/>", 3, api.ErrArg},
		{"<a xmlns:p='u'><b xmlns:p=''/></a>", 18, api.ErrArg}, {"<a b='1' xmlns='u' xmlns:p='' xmlns:xml='u'/>", 19, api.ErrArg}, {"<a xmlns:xml='u' xmlns:p=''/>", 3, api.ErrArg}, {"<p:a xmlns:q=''/>", 5, api.ErrArg}, {"<a p:x='1' xmlns:p=''/>", 11, api.ErrArg}, {"<a xmlns:p='u' xmlns:q='u' p:b='1' q:b='2' xmlns:r=''/>", 43, api.ErrArg},

		{"<p:a/>", 0, api.ErrSpace}, {"<xmlns:a/>", 0, api.ErrSpace}, {"<XML:a/>", 0, api.ErrSpace}, {"<p:a xmlns='p' xmlns:P='u'/>", 0, api.ErrSpace}, {"<a><p:b xmlns:p='u'/><p:b/></a>", 21, api.ErrSpace}, {"<a><p:b xmlns:p='u'></p:b><p:b/></a>", 26, api.ErrSpace}, {"<a><b xmlns:p='u'><c/></b><c p:d='1'/></a>", 29, api.ErrSpace}, {"<p:a q:b='1'/>", 0, api.ErrSpace}, {"<q:a xmlns:p='u' p:b='1' p:c='1' q:d='2'/>", 0, api.ErrSpace},
		{"<a p:b='1'/>", 3, api.ErrSpace}, {"<a b='1' p:b='1' q:b='2'/>", 9, api.ErrSpace}, {"<a xmlns='u' u:b='1'/>", 13, api.ErrSpace},

		{"<a xmlns:p='u' xmlns:q='u' p:b='1' q:b='2'/>", 35, api.ErrTwice}, {"<a xmlns:p='u' p:b='1' xmlns:q='u' c='2' q:b='1'/>", 41, api.ErrTwice}, {"<a xmlns:p='u'><b xmlns:q='u' q:c='' p:c=''/></a>", 37, api.ErrTwice}, {"<a xmlns:p='u' xmlns:q='u' p:b='1' q:b='2' r:b='3'/>", 35, api.ErrTwice}, {"<a xmlns:p='u' xmlns:q='u' p:b='1' r:b='3' q:b='2'/>", 35, api.ErrSpace}, {"<a xmlns:p='u' xmlns:q='v' p:b='1'><b xmlns:q='u' q:b='1' p:b='1'/>", 58, api.ErrTwice}, {"<a xmlns:p='u' xmlns:q='u' xmlns:r='u' r:b='1' q:b='2' p:b='3'/>", 47, api.ErrTwice},

		{"</a>", 0, api.ErrXml}, {"</a><p:b/>", 0, api.ErrXml}, {"<a/></a>", 4, api.ErrXml}, {"<a></a></a>", 7, api.ErrXml}, {"<a></b>", 3, api.ErrXml}, {"<a><b></a>", 6, api.ErrXml}, {"<a><b></a></b>", 6, api.ErrXml}, {"<a>t</A>", 4, api.ErrXml}, {"<p:a xmlns:p='u' xmlns:q='u'></q:a>", 29, api.ErrXml}, {"<p:a xmlns:p='u' xmlns='u'></a>", 27, api.ErrXml}, {"<a xmlns:p='u' xmlns='u'></p:a>", 25, api.ErrXml}, {"<a></p:a>", 3, api.ErrXml},

		{"", 0, api.ErrShort}, {" \n", 2, api.ErrShort}, {"<!-- c -->", 10, api.ErrShort}, {"<a>", 3, api.ErrShort}, {"<a><b></b>", 10, api.ErrShort}, {"<a><b>t", 7, api.ErrShort}, {"<a xmlns='u'> <!-- c -->", 24, api.ErrShort}, {"<?xml ?>", 8, api.ErrShort},

		// layer 4's go ahead, even of what stands ahead
		{"<a b=>", 5, api.ErrXml}, {"t<p:a></b>\xff", 10, api.ErrUtf}, {"<p:a/><", 7, api.ErrShort}, {"<a><b c='1' c='2'/></b>", 12, api.ErrTwice}, {"</a><a:b:c/>", 5, api.ErrName}, {"<p:a/>&", 6, api.ErrXml}, {"<a xmlns='u' xmlns='v'/>", 13, api.ErrTwice}, {"<a xmlns:='u'/>", 3, api.ErrName},
	} {
		n, at, e := xmltree.Read([]byte(c.s))
		if !reflect.DeepEqual(n, api.Node{}) || at != c.at || e != c.want {
			t.Errorf("%q: %s %d %v, not %d %v", c.s, testaid.Node(n), at, e, c.at, c.want)
		}
		checkBytes(t, c.s)
	}
	if n, at, e := xmltree.Read(bytes.Repeat([]byte("<"), api.MaxBytes+1)); !reflect.DeepEqual(n, api.Node{}) || at != 0 || e != api.ErrLong {
		t.Errorf("%s %d %v", testaid.Node(n), at, e)
	}
}

// P5.1: as deep as may be, in all the ways in which it may be so, with texts in it.
func TestDepth(t *testing.T) {
	for _, c := range []struct {
		inmost string
		want   string
	}{{"<b/>", "b@597"}, {"<b></b>", "b@597"}, {"<b>t</b>", "b@597(\"t\"@600)"}, {"<b/><b>t</b>u<b/>", "b@597, b@601(\"t\"@604), \"u\"@609, b@610"}} {
		s := strings.Repeat("<a>", 199) + c.inmost + strings.Repeat("</a>", 199) + " "
		n, at, e := xmltree.Read([]byte(s))
		if at != len(s) || e != api.OK {
			t.Fatalf("%q: %d %v", c.inmost, at, e)
		}
		for range 198 {
			if n.Name.Local != "a" || len(n.Kids) != 1 {
				t.Fatal(testaid.Node(n))
			}
			n = n.Kids[0]
		}
		if want := "a@594(" + c.want + ")"; testaid.Node(n) != want {
			t.Errorf("%s, not %s", testaid.Node(n), want)
		}
		checkBytes(t, s)
	}
}

// inRow are tokens, each at a place of its own.
func inRow(l []api.Token) []api.Token {
	var row []api.Token
	for i, x := range l {
		row = append(row, placed(x, 100*i))
	}
	return row
}

// placed is a token at a place, its attributes behind that.
func placed(x api.Token, at int) api.Token {
	x.At, x.Attrs = at, slices.Clone(x.Attrs)
	for i := range x.Attrs {
		x.Attrs[i].At = at + 10*(i+1)
	}
	return x
}

func tag(kind int, name string, attrs ...string) api.Token {
	x := api.Token{Kind: kind, S: name}
	for _, s := range attrs {
		name, value, _ := strings.Cut(s, "=")
		x.Attrs = append(x.Attrs, api.Pair{Name: name, Value: value})
	}
	return x
}

func text(s string) api.Token { return api.Token{Kind: api.Text, S: s} }

// P5.1: all lists of few tokens: what stands in what.
func TestEveryList(t *testing.T) {
	tokens := []api.Token{text(" "), text("t"), tag(api.Open, "a"), tag(api.Open, "b"), tag(api.Empty, "a"), tag(api.Empty, "p:b"), tag(api.Close, "a"), tag(api.Close, "b")}
	testaid.EveryRow(tokens, 6, func(l []api.Token) { check(t, inRow(l), 1000) })
}

// P5.1: all lists of few tokens that give namespaces, and that need them.
func TestEveryGiver(t *testing.T) {
	tokens := []api.Token{
		tag(api.Open, "a"), tag(api.Open, "a", "xmlns=u"), tag(api.Open, "a", "xmlns:p=u", "xmlns:q=v", "p:x=1", "q:x=2"), tag(api.Open, "p:a", "xmlns:p=u", "x=1"), tag(api.Open, "q:a", "xmlns=", "xmlns:q=u", "q:x=1", "p:x=2"),
		tag(api.Empty, "a", "p:x=1", "x=2"), tag(api.Empty, "p:a", "xmlns:q=u", "p:x=1", "q:x=2"), tag(api.Empty, "a", "q:x=1", "xmlns:p="), tag(api.Empty, "q:a", "xmlns=v"),
		tag(api.Close, "a"), tag(api.Close, "p:a"), tag(api.Close, "q:a"),
	}
	testaid.EveryRow(tokens, 5, func(l []api.Token) { check(t, inRow(l), 1000) })
}

// P5.1: all rows of up to three attributes, in an element within one that gives a namespace.
func TestEveryAttribute(t *testing.T) {
	var attrs []string
	for _, name := range []string{"x", "p:x", "q:x", "xml:x", "xmlns:x", "xmlns", "xmlns:p", "xmlns:q", "xmlns:xml", "xmlns:xmlns"} {
		values := []string{"", "u", "v", xmlSpace, xmlnsSpace}
		if !strings.HasPrefix(name, "xmlns") {
			values = values[:1]
		}
		for _, v := range values {
			attrs = append(attrs, name+"="+v)
		}
	}
	testaid.EveryRow(attrs, 3, func(row []string) {
		for _, name := range []string{"a", "p:a", "q:a", "xml:a", "xmlns:a"} {
			x := tag(api.Empty, name, row...)
			if _, _, e := xmltok.Write(x); e != api.OK { // an attribute stands twice, as written
				continue
			}
			check(t, inRow([]api.Token{tag(api.Open, "o", "xmlns:p=u"), x, tag(api.Empty, "p:b"), tag(api.Close, "o")}), 1000)
		}
	})
}

// P5.2: all texts of few pieces are layer 4's tokens, and the tree of these.
func TestEveryText(t *testing.T) {
	pieces := []string{"<a>", "</a>", "<a xmlns='u'>", "<p:a xmlns:p='u' p:b='1'>", "</p:a>", "<p:a b='1'/>", " ", "t", "&lt;", "<![CDATA[ ]]>", "<!-- c -->", "<", "\xff"}
	testaid.EveryRow(pieces, 4, func(l []string) { checkBytes(t, strings.Join(l, "")) })
	for _, ahead := range []string{"<a>", "<a xmlns='u'>t", "<a><a>"} {
		testaid.EveryRow(pieces, 3, func(l []string) { checkBytes(t, ahead+strings.Join(l, "")+"</a>") })
	}
}

// chance is a row of tokens by chance, most of them right: elements in elements, up to a depth.
func chance(r *rand.Rand, deep int) []api.Token {
	some := func(l ...string) string { return l[r.Intn(len(l))] }
	x := tag(api.Open, some("", "", "p:", "q:")+some("a", "b", "\u00e4"))
	for _, name := range []string{"xmlns", "xmlns:p", "xmlns:q", "b", "p:b", "q:b", "q:c"} {
		if r.Intn(4) == 0 {
			x.Attrs = append(x.Attrs, api.Pair{Name: name, Value: some("u", "v", "w", "u")})
		}
	}
	r.Shuffle(len(x.Attrs), func(i, j int) { x.Attrs[i], x.Attrs[j] = x.Attrs[j], x.Attrs[i] })
	if deep == 0 || r.Intn(4) == 0 {
		x.Kind = api.Empty
		return []api.Token{x}
	}
	l := []api.Token{x}
	for range r.Intn(4) {
		if r.Intn(3) == 0 {
			l = append(l, text(some("t", " ", "<", "\r", "\u00e4")))
		} else {
			l = append(l, chance(r, deep-1)...)
		}
	}
	return append(l, tag(api.Close, x.S))
}

// P5.1: trees by chance, and such of which a token is left out, or stands elsewhere.
func TestChance(t *testing.T) {
	r := rand.New(rand.NewSource(5))
	right := 0
	for range 20000 {
		l := append([]api.Token{tag(api.Open, "o", "xmlns:p=u", "xmlns:q=v")}, chance(r, 5)...)
		l = append(l, tag(api.Close, "o"))
		switch r.Intn(4) {
		case 0:
			i := r.Intn(len(l))
			l = slices.Delete(l, i, i+1)
		case 1:
			i, j := r.Intn(len(l)), r.Intn(len(l))
			l[i], l[j] = l[j], l[i]
		}
		check(t, inRow(l), 100*len(l))
		if _, _, e := xmltree.Build(l, 0); e == api.OK {
			right++
		}
	}
	if right < 2000 {
		t.Errorf("only %d right trees", right)
	}
}

// P5.1: places are told as they are handed in, whatever they are.
func TestPlaces(t *testing.T) {
	for _, at := range []int{math.MinInt, -1, 0, 1, 1 << 40, math.MaxInt} {
		node := "@" + strconv.Itoa(at)
		open, t1, t2, stop := tag(api.Open, "a", "xmlns:p="), text("t"), text("u"), tag(api.Close, "a")
		open.At, t1.At, t2.At, stop.At = at, at, 7, at
		open.Attrs[0].At = at
		for _, c := range []struct {
			l    []api.Token
			end  int
			want string
			at   int
			e    api.Errno
		}{
			{[]api.Token{tag(api.Open, "b"), t1, t2, stop}, 9, "@0", at, api.ErrXml},
			{[]api.Token{{At: at, S: "b"}, t1, t2, tag(api.Close, "b")}, 9, "b" + node + "(\"tu\"" + node + ")", 9, api.OK},
			{[]api.Token{open, stop}, 9, "@0", at, api.ErrArg},
			{[]api.Token{t1}, 9, "@0", at, api.ErrXml},
			{nil, max(at, 0), "@0", max(at, 0), api.ErrShort},
			{[]api.Token{tag(api.Empty, "b")}, max(at, 0), "b@0", max(at, 0), api.OK},
			{[]api.Token{tag(api.Open, "b")}, max(at, 0), "@0", max(at, 0), api.ErrShort},
		} {
			if n, k, e := xmltree.Build(c.l, c.end); testaid.Node(n) != c.want || k != c.at || e != c.e {
				t.Errorf("%v: %s %d %v, not %s %d %v", c.l, testaid.Node(n), k, e, c.want, c.at, c.e)
			}
		}
	}
}

// P5.1, P1: of tokens that are none nothing is promised, but that the call ends.
func TestOdd(t *testing.T) {
	var tokens []api.Token
	for _, kind := range []int{math.MinInt, -1, 0, 1, 2, 3, 4, math.MaxInt} {
		for _, name := range []string{"", "a", ":", "a:", ":a", "a:b:c", "\xff", "xmlns:"} {
			tokens = append(tokens, api.Token{Kind: kind, S: name}, tag(kind, name, name+"=1", name+"=1", "xmlns:=u", "xmlns=v", "xmlns=", "=", ":="))
		}
	}
	testaid.EveryRow(tokens, 2, func(l []api.Token) {
		for _, end := range []int{math.MinInt, -1, 0} {
			xmltree.Build(l, end)
			xmltree.Build(append([]api.Token{tag(api.Open, "a")}, append(l, tag(api.Close, "a"))...), end)
		}
	})
}

// tree is one that has something of all that a node may have.
func tree() api.Node {
	return api.Node{At: 1, Name: api.Name{Space: "u", Local: "a"}, Attrs: []api.Attr{{Name: api.Name{Local: "x"}, Value: "1"}, {Name: api.Name{Space: "v", Local: "y"}, Value: "2"}}, Kids: []api.Node{
		{At: 2, Text: "t"},
		{At: 3, Name: api.Name{Local: "b"}, Kids: []api.Node{{At: 4, Text: "u"}, {At: 5, Name: api.Name{Local: "c"}}}},
		{At: 6, Text: "w"},
	}}
}

// P5.3: each thing by which trees may be other ones, and places, by which they aren't.
func TestSame(t *testing.T) {
	for i, c := range []struct {
		change func(n *api.Node)
		want   bool
	}{
		{func(n *api.Node) {}, true},
		{func(n *api.Node) { n.At, n.Kids[1].At, n.Kids[1].Kids[1].At = -1, math.MaxInt, 0 }, true},
		{func(n *api.Node) { n.Kids[0].Kids, n.Kids[0].Attrs = []api.Node{}, []api.Attr{} }, true},
		{func(n *api.Node) { n.Name.Space = "" }, false},
		{func(n *api.Node) { n.Name.Local = "A" }, false},
		{func(n *api.Node) { n.Text = "t" }, false},
		{func(n *api.Node) { n.Attrs[0].Value = "2" }, false},
		{func(n *api.Node) { n.Attrs[1].Name.Space = "" }, false},
		{func(n *api.Node) { n.Attrs[1].Name.Local = "x" }, false},
		{func(n *api.Node) { n.Attrs = n.Attrs[:1] }, false},
		{func(n *api.Node) { n.Attrs = append(n.Attrs, api.Attr{}) }, false},
		{func(n *api.Node) { slices.Reverse(n.Attrs) }, false},
		{func(n *api.Node) { n.Kids = n.Kids[:2] }, false},
		{func(n *api.Node) { n.Kids = n.Kids[1:] }, false},
		{func(n *api.Node) { n.Kids = append(n.Kids, api.Node{}) }, false},
		{func(n *api.Node) { slices.Reverse(n.Kids) }, false},
		{func(n *api.Node) { n.Kids[2].Text = "W" }, false},
		{func(n *api.Node) { n.Kids[0].Text = "" }, false},
		{func(n *api.Node) { n.Kids[0].Name.Local = "t" }, false},
		{func(n *api.Node) { n.Kids[1].Attrs = []api.Attr{{}} }, false},
		{func(n *api.Node) { n.Kids[1].Kids[1].Name.Local = "d" }, false},
		{func(n *api.Node) { n.Kids[1].Kids[1].Kids = []api.Node{{}} }, false},
		{func(n *api.Node) { n.Kids[1].Kids = nil }, false},
		{func(n *api.Node) { *n = n.Kids[1] }, false},
		{func(n *api.Node) { *n = api.Node{} }, false},
	} {
		other := tree()
		c.change(&other)
		if xmltree.Same(tree(), other) != c.want || xmltree.Same(other, tree()) != c.want {
			t.Errorf("%d: %s isn't %v", i, testaid.Node(other), c.want)
		}
		if !xmltree.Same(other, other) {
			t.Errorf("%d: %s isn't the same as itself", i, testaid.Node(other))
		}
	}
	// as many nodes, of the same names in the same order, but another one in another one
	b := api.Node{Name: api.Name{Local: "b"}}
	in := api.Node{Kids: []api.Node{{Name: b.Name, Kids: []api.Node{b}}}}
	beside := api.Node{Kids: []api.Node{b, b}}
	if xmltree.Same(in, beside) || xmltree.Same(beside, in) || !xmltree.Same(api.Node{}, api.Node{At: 1}) {
		t.Error("in, and beside")
	}
}

// P5.3: Find tells the children of just that name that are elements, in order, and none deeper.
func TestFind(t *testing.T) {
	kid := func(at int, space, local string, kids ...api.Node) api.Node {
		return api.Node{At: at, Name: api.Name{Space: space, Local: local}, Kids: kids}
	}
	n := kid(0, "u", "b", kid(1, "u", "b", kid(2, "u", "b"), kid(3, "", "c")), api.Node{At: 4, Text: "t"}, kid(5, "", "b"), kid(6, "v", "b"), kid(7, "u", "b"), kid(8, "u", "B"), api.Node{At: 9}, kid(10, "u", ""), kid(11, "", "b"))
	n.Kids[0].Attrs = []api.Attr{{Name: api.Name{Space: "u", Local: "d"}}}
	for _, c := range []struct {
		space, local string
		want         []int
	}{{"u", "b", []int{1, 7}}, {"", "b", []int{5, 11}}, {"v", "b", []int{6}}, {"u", "B", []int{8}}, {"v", "B", nil}, {"", "c", nil}, {"u", "d", nil}, {"", "", nil}, {"u", "", nil}, {"", "t", nil}, {"\xff", "b", nil}} {
		l := xmltree.Find(n, api.Name{Space: c.space, Local: c.local})
		var got []int
		for _, k := range l {
			got = append(got, k.At)
			if !slices.ContainsFunc(n.Kids, func(x api.Node) bool { return reflect.DeepEqual(x, k) }) {
				t.Errorf("%s is no child", testaid.Node(k))
			}
		}
		if !slices.Equal(got, c.want) {
			t.Errorf("%q %q: %v, not %v", c.space, c.local, got, c.want)
		}
	}
	if l := xmltree.Find(api.Node{}, api.Name{Local: "a"}); len(l) != 0 {
		t.Error(l)
	}
}

// P5.3: Text is a node's own, then that of each child, in order, however deep; also where a node has what no tree that is read has.
func TestText(t *testing.T) {
	for _, c := range []struct{ s, want string }{
		{"<a/>", ""}, {"<a>t</a>", "t"}, {"<a>1<b>2<c>3</c>4</b>5<d/>6<e><f>7</f></e>8</a>", "12345678"}, {"<a x='1'> <b y='2'>&lt;</b><!-- c -->\r\n<![CDATA[&lt;]]></a>", " <\n&lt;"},
	} {
		n, _, _ := xmltree.Read([]byte(c.s))
		if got := xmltree.Text(n); got != c.want {
			t.Errorf("%q: %q, not %q", c.s, got, c.want)
		}
	}
	odd := api.Node{Text: "1", Kids: []api.Node{{Text: "2", Kids: []api.Node{{Name: api.Name{Local: "a"}, Text: "3\xff"}}}, {}, {Text: "4"}}}
	if got := xmltree.Text(odd); got != "123\xff4" {
		t.Errorf("%q", got)
	}
	if got := xmltree.Text(api.Node{Text: "t"}); got != "t" {
		t.Errorf("%q", got)
	}
	if got := xmltree.Text(tree()); got != "tuw" {
		t.Errorf("%q", got)
	}
}

// P5.3: Value is that of the first attribute of just that name.
func TestValue(t *testing.T) {
	n := api.Node{Attrs: []api.Attr{{Name: api.Name{Local: "x"}, Value: "1"}, {Name: api.Name{Space: "u", Local: "x"}, Value: "2"}, {Name: api.Name{Local: "x"}, Value: "3"}, {Name: api.Name{Space: "u", Local: "y"}}, {Value: "4"}},
		Kids: []api.Node{{Attrs: []api.Attr{{Name: api.Name{Local: "z"}, Value: "5"}}}}}
	for _, c := range []struct {
		name api.Name
		want string
		ok   bool
	}{{api.Name{Local: "x"}, "1", true}, {api.Name{Space: "u", Local: "x"}, "2", true}, {api.Name{Space: "u", Local: "y"}, "", true}, {api.Name{}, "4", true}, {api.Name{Local: "y"}, "", false}, {api.Name{Local: "z"}, "", false}, {api.Name{Local: "X"}, "", false}, {api.Name{Space: "u"}, "", false}} {
		if v, ok := xmltree.Value(n, c.name); v != c.want || ok != c.ok {
			t.Errorf("%v: %q %v", c.name, v, ok)
		}
	}
	if v, ok := xmltree.Value(api.Node{}, api.Name{}); v != "" || ok {
		t.Errorf("%q %v", v, ok)
	}
}

// chain is as many nodes one in the other, the innermost one a text.
func chain(n int, text string) api.Node {
	x := api.Node{Text: text}
	for range n {
		x = api.Node{Name: api.Name{Local: "a"}, Kids: []api.Node{x}}
	}
	return x
}

// P1, P5.3: trees that are handed in may be far deeper than those that are read; a small stack stands for a deeper one.
func TestDeeper(t *testing.T) {
	defer debug.SetMaxStack(debug.SetMaxStack(1 << 20))
	n := 1 << 17
	if !xmltree.Same(chain(n, "t"), chain(n, "t")) || xmltree.Same(chain(n, "t"), chain(n, "u")) || xmltree.Same(chain(n, "t"), chain(n+1, "t")) {
		t.Error("same")
	}
	if s := xmltree.Text(chain(n, "t")); s != "t" {
		t.Errorf("%q", s)
	}
}

// P5.1, P5.3: very many children, attributes, namespaces, and texts one behind the other, in a time that goes with the bytes.
func TestLong(t *testing.T) {
	n := 1 << 17
	var givers, attrs strings.Builder
	for i := range n {
		givers.WriteString(" xmlns:p" + strconv.Itoa(i) + "='u'")
		attrs.WriteString(" p:b" + strconv.Itoa(i) + "='1'")
	}
	for _, c := range []struct {
		s, text          string
		attrs, kids, all int
	}{
		{"<a>" + strings.Repeat("<b/>t", n) + "</a>", strings.Repeat("t", n), 0, 2 * n, 2 * n},
		{"<a>" + strings.Repeat("t<![CDATA[u]]><!---->", n) + "</a>", strings.Repeat("tu", n), 0, 1, 1},
		{"<a xmlns:p='u'" + attrs.String() + "><b/></a>", "", n, 1, 1},
		{"<a" + givers.String() + ">" + strings.Repeat("<p7:b p8:c='1'>t</p7:b>", n) + "</a>", strings.Repeat("t", n), 0, n, n},
		{"<a>" + strings.Repeat("<b xmlns='u' xmlns:p='v'><p:c/></b>", n) + "</a>", "", 0, n, n},
		{strings.Repeat("<a xmlns='u'>", 199) + strings.Repeat("<b/>", n) + strings.Repeat("</a>", 199), "", 0, 1, 0},
	} {
		x, at, e := xmltree.Read([]byte(c.s))
		if at != len(c.s) || e != api.OK || len(x.Attrs) != c.attrs || len(x.Kids) != c.kids || xmltree.Text(x) != c.text || !xmltree.Same(x, x) {
			t.Errorf("%.40q ..: %d %v, %d attributes, %d children", c.s, at, e, len(x.Attrs), len(x.Kids))
		}
	}
}

// spoil changes all of a tree, and what lies behind its lists.
func spoil(n *api.Node) {
	n.At, n.Name, n.Text = -9, api.Name{Space: "#", Local: "#"}, "#"
	n.Attrs = append(n.Attrs, api.Attr{Value: "#"})
	for i := range n.Attrs {
		n.Attrs[i] = api.Attr{Value: "#"}
	}
	for i := range n.Kids {
		spoil(&n.Kids[i])
	}
	for i := range n.Kids[len(n.Kids):cap(n.Kids)] {
		n.Kids[:cap(n.Kids)][len(n.Kids)+i] = api.Node{Text: "#"}
	}
}

// Rules 2, 4: what is handed in isn't changed, what lies behind it isn't read, and what is answered is new.
func TestLists(t *testing.T) {
	fresh := func() []api.Token {
		l := []api.Token{tag(api.Open, "a", "x=1", "xmlns:p=u", "y=2"), text("t"), text("u"), tag(api.Open, "b", "x=1", "p:x=2"), text("v"), tag(api.Close, "b"), tag(api.Empty, "c", "z=3"), tag(api.Close, "a"), tag(api.Empty, "behind"), text("behind")}
		for i := range l {
			l[i] = placed(l[i], 100*i)
			l[i].Attrs = append(l[i].Attrs, api.Pair{Name: "p:x"}, api.Pair{Name: "q:x"})[:len(l[i].Attrs)]
		}
		return l
	}
	want, _, _ := told(fresh()[:8], 800)
	l := fresh()
	one, at, e := xmltree.Build(l[:8], 800)
	if at != 800 || e != api.OK || testaid.Node(one) != testaid.Node(want) {
		t.Fatalf("%s %d %v", testaid.Node(one), at, e)
	}
	two, _, _ := xmltree.Build(l[:8], 800)
	spoil(&one)
	if testaid.Node(two) != testaid.Node(want) {
		t.Errorf("it hangs on another answer: %s", testaid.Node(two))
	}
	if !reflect.DeepEqual(l, fresh()) || !reflect.DeepEqual(l[3].Attrs[:4], fresh()[3].Attrs[:4]) {
		t.Errorf("what was handed in is changed: %v", l)
	}
	for i := range l {
		for j := range l[i].Attrs {
			l[i].Attrs[j] = api.Pair{Name: "#"}
		}
		l[i] = text("#")
	}
	if testaid.Node(two) != testaid.Node(want) {
		t.Errorf("it hangs on the tokens: %s", testaid.Node(two))
	}
}

// Rules 2, 4: no list of an answer lies in another one's memory.
func TestApart(t *testing.T) {
	s := []byte("<a x='1' y='2'><b z='3'/><b w='4'>t<c/></b>u</a>>>")
	n, at, e := xmltree.Read(s[:len(s)-2])
	want := testaid.Node(n)
	if at != len(s)-2 || e != api.OK {
		t.Fatal(at, e)
	}
	for i := range s {
		s[i] = '#'
	}
	if testaid.Node(n) != want {
		t.Errorf("it hangs on the bytes: %s", testaid.Node(n))
	}
	grow := func(x *api.Node) {
		_ = append(x.Attrs, api.Attr{Value: "#"}, api.Attr{Value: "#"})
		_ = append(x.Kids, api.Node{Text: "#"}, api.Node{Text: "#"})
	}
	grow(&n)
	for i := range n.Kids {
		grow(&n.Kids[i])
	}
	if testaid.Node(n) != want {
		t.Errorf("one list hangs on another: %s", testaid.Node(n))
	}
}

// Rule 4: Find, Same, Text and Value change nothing, and read nothing behind a list's length; Find's list is new.
func TestAsked(t *testing.T) {
	n := tree()
	whole := testaid.Node(n)
	n.Kids = append(n.Kids, api.Node{Text: "#"}, api.Node{Name: api.Name{Local: "b"}})[:3]
	n.Attrs = append(n.Attrs, api.Attr{Name: api.Name{Local: "z"}, Value: "#"})[:2]
	behind := testaid.Node(api.Node{Kids: n.Kids[3:5], Attrs: n.Attrs[2:3]})
	b := api.Name{Local: "b"}
	one, two := xmltree.Find(n, b), xmltree.Find(n, b)
	if len(one) != 1 || len(two) != 1 || xmltree.Text(n) != "tuw" || !xmltree.Same(n, tree()) {
		t.Error(one, two, xmltree.Text(n))
	}
	if v, ok := xmltree.Value(n, api.Name{Local: "z"}); v != "" || ok {
		t.Error(v, ok)
	}
	one[0] = api.Node{Text: "#"}
	if testaid.Node(n) != whole || two[0].Name != b || testaid.Node(api.Node{Kids: n.Kids[3:5], Attrs: n.Attrs[2:3]}) != behind {
		t.Errorf("changed: %s", testaid.Node(n))
	}
}
