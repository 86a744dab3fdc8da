package xmlout_test

import (
	"math"
	"math/rand"
	"reflect"
	"runtime/debug"
	"slices"
	"strconv"
	"strings"
	"testing"

	"tipstave/api"
	"tipstave/testaid"
	"tipstave/xmlout"
	"tipstave/xmltree"
)

// check holds what all calls answer against the chapter (told_test.go).
func check(t *testing.T, n api.Node) {
	t.Helper()
	want := toldCheck(n)
	if e := xmlout.Check(n); e != want {
		t.Fatalf("%s: %v, not %v", testaid.Node(n), e, want)
	}
	if sorted, want := xmlout.Sorted(n), toldSorted(n); testaid.Node(sorted) != testaid.Node(want) {
		t.Fatalf("%s: sorted %s, not %s", testaid.Node(n), testaid.Node(sorted), testaid.Node(want))
	}
	b, be := xmlout.Write(n)
	l, le := xmlout.Prefixes(n)
	if be != want || le != want {
		t.Fatalf("%s: %v, %v, not %v", testaid.Node(n), be, le, want)
	}
	if want != api.OK {
		if b != nil || l != nil {
			t.Fatalf("%s: %q, %v beside an error", testaid.Node(n), b, l)
		}
		return
	}
	if want := toldBytes(n); string(b) != want {
		t.Fatalf("%s: %s, not %s", testaid.Node(n), b, want)
	}
	if want := toldPrefixes(n); !slices.Equal(l, want) {
		t.Fatalf("%s: %v, not %v", testaid.Node(n), l, want)
	}
	checkRead(t, n, b)
}

// checkRead holds what is read of a tree's bytes against it.
func checkRead(t *testing.T, n api.Node, b []byte) {
	t.Helper()
	m, at, e := xmltree.Read(b)
	if at != len(b) || e != api.OK || !xmltree.Same(m, toldSorted(n)) {
		t.Fatalf("%s is read as %s, %d, %v", b, testaid.Node(m), at, e)
	}
	if again, e := xmlout.Write(m); e != api.OK || string(again) != string(b) {
		t.Fatalf("%s is written again as %s, %v", b, again, e)
	}
}

// element is one of a name, {u}a, and attributes, {u}a=1; kids go into it by within.
func element(s string, attrs ...string) api.Node {
	n := api.Node{Name: name(s)}
	for _, s := range attrs {
		of, value, _ := strings.Cut(s, "=")
		n.Attrs = append(n.Attrs, api.Attr{Name: name(of), Value: value})
	}
	return n
}

func name(s string) api.Name {
	space, local, ok := strings.Cut(strings.TrimPrefix(s, "{"), "}")
	if !ok {
		return api.Name{Local: s}
	}
	return api.Name{Space: space, Local: local}
}

func text(s string) api.Node { return api.Node{Text: s} }

// within is an element with such children.
func within(n api.Node, kids ...api.Node) api.Node {
	n.Kids = kids
	return n
}

// P6.2, P6.3: the bytes of right trees.
func TestWrite(t *testing.T) {
	dmn := ` xmlns:dmn="https://www.omg.org/spec/DMN/20211108/MODEL/"`
	u := "{" + api.Uri + "}"
	for _, c := range []struct {
		n    api.Node
		want string
	}{
		{element("a"), `<a/>`},
		{element("{u}a"), `<n1:a xmlns:n1="u"/>`},
		{within(element("{u}a"), text("<")), `<n1:a xmlns:n1="u">&lt;</n1:a>`},
		{element(u + "a"), `<dmn:a` + dmn + `/>`},
		{element("{" + xmlSpace + "}a"), `<xml:a/>`},
		{element("{" + api.Uri + " }a"), `<n1:a xmlns:n1="` + api.Uri + ` "/>`},
		{element("{https://www.omg.org/spec/DMN/20211108/MODEL}a"), `<n1:a xmlns:n1="https://www.omg.org/spec/DMN/20211108/MODEL"/>`},
		{element("{http://www.w3.org/2000/xmlns}a"), `<n1:a xmlns:n1="http://www.w3.org/2000/xmlns"/>`},
		{element("{dmn}a", "{xml}b=1", "{n1}c=2"), `<n1:a xmlns:n1="dmn" xmlns:n2="n1" xmlns:n3="xml" n2:c="2" n3:b="1"/>`},
		{element("xmlns"), `<xmlns/>`},
		{element("xml", "{u}xmlns=1", "xml=2"), `<xml xmlns:n1="u" xml="2" n1:xmlns="1"/>`},
		{element("\u00e4.-1", "\u00f6=\u00fc\U0001f600"), "<\u00e4.-1 \u00f6=\"\u00fc\U0001f600\"/>"},

		{element("a", "b=", "c= "), `<a b="" c=" "/>`},
		{element("a", "c=1", "b=2", "B=3", "_=4", "b.=5", "b-=6", "bb=7"), `<a B="3" _="4" b="2" b-="6" b.="5" bb="7" c="1"/>`},
		{element("a", "{v}b=1", "{u}c=2", "{u}b=3", "d=4"), `<a xmlns:n1="u" xmlns:n2="v" d="4" n1:b="3" n1:c="2" n2:b="1"/>`},
		{element("a", "{b}c=1", "{bb}b=2", "{B}z=3"), `<a xmlns:n1="B" xmlns:n2="b" xmlns:n3="bb" n1:z="3" n2:c="1" n3:b="2"/>`},
		{element("a", "\U00010000=1", "\uffef=2"), "<a \uffef=\"2\" \U00010000=\"1\"/>"},
		{element("{v}a", "{u}b=1", "{v}b=2"), `<n1:a xmlns:n1="v" xmlns:n2="u" n2:b="1" n1:b="2"/>`},
		{element("a", "{"+xmlSpace+"}lang=de", u+"b=1", "{z}c=2", "{a}d=3", "e=4"), `<a xmlns:n1="a"` + dmn + ` xmlns:n2="z" e="4" n1:d="3" xml:lang="de" dmn:b="1" n2:c="2"/>`},

		{element("a", "b=&<>\"'\t\n\r ]]>"), `<a b="&amp;&lt;&gt;&quot;'&#9;&#10;&#13; ]]&gt;"/>`},
		{element("{&<>\"'\t\n\r }a"), `<n1:a xmlns:n1="&amp;&lt;&gt;&quot;'&#9;&#10;&#13; "/>`},
		{element("{ }a", "{\n}b=1"), `<n1:a xmlns:n1=" " xmlns:n2="&#10;" n2:b="1"/>`},
		{within(element("a"), text("&<>\"'\t\n\r ]]>")), "<a>&amp;&lt;&gt;\"'\t\n&#13; ]]&gt;</a>"},
		{within(element("a"), text(" ")), "<a> </a>"},
		{within(element("a"), text("\r\n")), "<a>&#13;\n</a>"},

		{within(element("a"), element("b"), text("t"), element("c"), element("d")), "<a><b/>t<c/><d/></a>"},
		{within(element("a"), text("1"), within(element("b"), text("2"), within(element("c"), text("3"))), text("4")), "<a>1<b>2<c>3</c></b>4</a>"},
		{within(element("a"), within(element("{u}b", "{v}c=1"), element("{w}d"))), `<a xmlns:n1="u" xmlns:n2="v" xmlns:n3="w"><n1:b n2:c="1"><n3:d/></n1:b></a>`},
		{within(element("{w}a"), within(element("{v}b"), element("{u}c")), element("{u}d", "{t}e=1"), element("f")), `<n1:a xmlns:n1="w" xmlns:n2="v" xmlns:n3="u" xmlns:n4="t"><n2:b><n3:c/></n2:b><n3:d n4:e="1"/><f/></n1:a>`},
		{within(element("a", "b=1"), within(element(u+"c", "z=1", "y=2"), element("{"+xmlSpace+"}d"), element("{u}e"))), `<a` + dmn + ` xmlns:n1="u" b="1"><dmn:c y="2" z="1"><xml:d/><n1:e/></dmn:c></a>`},
	} {
		if b, e := xmlout.Write(c.n); string(b) != c.want || e != api.OK {
			t.Errorf("%s: %s %v, not %s", testaid.Node(c.n), b, e, c.want)
		}
		check(t, c.n)
	}
}

// P6.2: each prefix that is used, in the order in which they are met; the tenth one's number has two digits.
func TestPrefixes(t *testing.T) {
	u, x := "{"+api.Uri+"}", "{"+xmlSpace+"}"
	many := element("a")
	wantMany := ""
	for i := range 12 {
		many.Kids = append(many.Kids, element("{u"+strconv.Itoa(i)+"}b"))
		wantMany += " n" + strconv.Itoa(i+1) + "=u" + strconv.Itoa(i)
	}
	for _, c := range []struct {
		n    api.Node
		want string
	}{
		{element("a", "b=1"), ""},
		{within(element("a"), element("b"), text("t")), ""},
		{element(u + "a"), " dmn=" + api.Uri},
		{element(x + "a"), " xml=" + xmlSpace},
		{element("{u}a", "{u}b=1"), " n1=u"},
		{element("{u}a", x+"b=1", u+"c=1", "{v}d=1", "{a}e=1"), " n1=u n2=a xml=" + xmlSpace + " dmn=" + api.Uri + " n3=v"},
		{within(element("a"), element("{v}b"), element(x+"c"), element("{u}d"), element(u+"e"), element("{v}f")), " n1=v xml=" + xmlSpace + " n2=u dmn=" + api.Uri},
		{within(element("a"), within(element("{w}b"), element("{v}c")), element("{u}d"), element("{v}e")), " n1=w n2=v n3=u"},
		{within(element("a", "{z}b=1"), element("{y}c")), " n1=z n2=y"},
		{many, wantMany},
	} {
		l, e := xmlout.Prefixes(c.n)
		got := ""
		for _, p := range l {
			got += " " + p.Name + "=" + p.Value
			if p.At != 0 {
				t.Errorf("%s: the place %d", testaid.Node(c.n), p.At)
			}
		}
		if got != c.want || e != api.OK {
			t.Errorf("%s:%s %v, not%s", testaid.Node(c.n), got, e, c.want)
		}
		check(t, c.n)
	}
}

// P6.1: each error.
func TestWrong(t *testing.T) {
	a, b := element("a"), element("b")
	in := func(kids ...api.Node) api.Node { return within(a, kids...) }
	for _, c := range []struct {
		n    api.Node
		want api.Errno
	}{
		{api.Node{}, api.ErrArg}, {text("t"), api.ErrArg}, {text("\xff"), api.ErrArg}, {within(text(""), b), api.ErrArg}, {within(text("t"), b), api.ErrArg}, {element("{u}"), api.ErrArg}, {element("{\xff}"), api.ErrArg}, {element("{" + xmlnsSpace + "}"), api.ErrArg}, {element("", "b=1"), api.ErrArg},

		{in(text("")), api.ErrArg}, {in(element("", "b=1")), api.ErrArg}, {in(api.Node{Text: "t", Attrs: []api.Attr{{}}}), api.ErrArg}, {in(within(text("t"), b)), api.ErrArg}, {in(within(text("t"), text("u"))), api.ErrArg}, {in(within(text(""), b)), api.ErrArg}, {in(element("{u}")), api.ErrArg}, {in(api.Node{Name: name("{u}"), Text: "t"}), api.ErrArg}, {in(api.Node{Name: name("{\xff}"), Text: "t"}), api.ErrArg},
		{in(text("t"), text("u")), api.ErrArg}, {in(text(" "), text(" ")), api.ErrArg}, {in(b, text("t"), text("u")), api.ErrArg}, {in(text("t"), b, text("u"), text("v")), api.ErrArg}, {in(text("t"), b, text("u")), api.OK}, {in(in(text("t")), text("u")), api.OK}, {in(text("t"), in(text("u"))), api.OK}, {in(b, b), api.OK},
		{in(text("\x00")), api.ErrUtf}, {in(text("t\xff")), api.ErrUtf}, {in(text("\uffff")), api.ErrUtf}, {in(text("\xed\xa0\x80")), api.ErrUtf}, {in(text("\x1f")), api.ErrUtf}, {in(text("\ufffd\x7f\u0085")), api.OK},

		{api.Node{Name: name("a"), Text: "t"}, api.ErrArg}, {api.Node{Name: name("a"), Text: "\xff"}, api.ErrArg}, {in(api.Node{Name: name("a"), Text: " "}), api.ErrArg},
		{element("a:b"), api.ErrName}, {element(":"), api.ErrName}, {element("1"), api.ErrName}, {element("-a"), api.ErrName}, {element("\u00b7"), api.ErrName}, {element("\u00d7"), api.ErrName}, {element("a b"), api.ErrName}, {element(" a"), api.ErrName}, {element("a\xff"), api.ErrName}, {element("a\ufffd"), api.OK}, {in(element("a/")), api.ErrName},
		{element("{" + xmlnsSpace + "}a"), api.ErrSpace}, {element("{\xff}a"), api.ErrSpace}, {element("{u\x00}a"), api.ErrSpace}, {element("{\ufffe}a"), api.ErrSpace}, {in(element("{\x0b}a")), api.ErrSpace},

		{element("a", "b:c=1"), api.ErrName}, {element("a", "=1"), api.ErrName}, {element("a", "{u}=1"), api.ErrName}, {element("a", "{u}1=1"), api.ErrName}, {element("a", "{u}b:c=1"), api.ErrName}, {element("a", "\xff=1"), api.ErrName}, {element("a", "xmlns:p=u"), api.ErrName},
		{element("a", "xmlns=u"), api.ErrArg}, {element("a", "b=1", "xmlns="), api.ErrArg}, {element("a", "{u}xmlns=1"), api.OK}, {element("a", "xmlnsp=1", "XMLNS=2"), api.OK},
		{element("a", "{"+xmlnsSpace+"}b=1"), api.ErrSpace}, {element("a", "{"+xmlnsSpace+"}xmlns=1"), api.ErrSpace}, {element("a", "{\xff}b=1"), api.ErrSpace}, {element("a", "{\x00}b=1"), api.ErrSpace},
		{element("a", "b=1", "b=1"), api.ErrTwice}, {element("a", "b=1", "c=2", "b=3"), api.ErrTwice}, {element("a", "{u}b=1", "{u}b=2"), api.ErrTwice}, {element("a", "{u}b=1", "{v}b=2", "b=3", "{u}c=4"), api.OK}, {within(element("a", "b=1"), element("c", "b=1")), api.OK}, {element("a", "{u}bc=1", "{ub}c=1"), api.OK},
		{element("a", "b=\x00"), api.ErrUtf}, {element("a", "b=1\xff"), api.ErrUtf}, {element("a", "b=\ud7ff\x08"), api.ErrUtf}, {element("a", "b=\ufffd\t\n\r"), api.OK},
	} {
		if e := xmlout.Check(c.n); e != c.want {
			t.Errorf("%s: %v, not %v", testaid.Node(c.n), e, c.want)
		}
		check(t, c.n)
	}
}

// P6.1: what goes ahead of what.
func TestAhead(t *testing.T) {
	in := func(kids ...api.Node) api.Node { return within(element("a"), kids...) }
	wordy := func(n api.Node) api.Node { n.Text = "\xff"; return n }
	for _, c := range []struct {
		n    api.Node
		want api.Errno
	}{
		// within a node
		{in(text("t"), text("\xff")), api.ErrArg}, {in(within(text("\xff"), element(":"))), api.ErrArg}, {in(wordy(element("{u}", "b=1"))), api.ErrArg},
		{wordy(element("{\xff}:", ":=1")), api.ErrArg}, {element("{\xff}:", "xmlns=1"), api.ErrName}, {element("{\xff}a", ":=1"), api.ErrSpace}, {element("{\xff}a", "xmlns=1"), api.ErrSpace},
		// within an attribute
		{element("a", "{\xff}:=\xff"), api.ErrName}, {element("a", "b=1", ":=\xff", ":=\xff"), api.ErrName}, {element("a", "xmlns=\xff"), api.ErrArg}, {element("a", "{\xff}b=\xff"), api.ErrSpace}, {element("a", "b=1", "b=\xff"), api.ErrTwice},
		// attribute by attribute
		{element("a", "b=\xff", ":=1"), api.ErrUtf}, {element("a", "b=\xff", "b=1"), api.ErrUtf}, {element("a", "b=1", "b=2", "xmlns=1"), api.ErrTwice}, {element("a", "{\xff}b=1", "xmlns=1"), api.ErrSpace}, {element("a", "xmlns=1", ":=1"), api.ErrArg}, {element("a", "xmlns=1", "xmlns=2"), api.ErrArg}, {element("a", "c=\xff", "b=1", "b=2"), api.ErrUtf}, {element("a", "z=\xff", ":=1"), api.ErrUtf},
		// a node ahead of its children, these in order, what is in one ahead of the next one
		{within(element("a", "b=\xff"), text("")), api.ErrUtf}, {within(element(":"), text("")), api.ErrName}, {within(wordy(element("a")), element(":")), api.ErrArg},
		{in(text("\xff"), text("t")), api.ErrUtf}, {in(text(""), text("\xff")), api.ErrArg}, {in(text("\xff"), element(":")), api.ErrUtf}, {in(element(":"), text("\xff")), api.ErrName},
		{in(in(text("\xff")), element(":")), api.ErrUtf}, {in(in(in(element("{\xff}b"))), element(":")), api.ErrSpace}, {in(within(element(":"), text("\xff")), text("")), api.ErrName}, {in(text("t"), in(text("\xff")), text("u"), text("v")), api.ErrUtf},
		{in(element("{u}"), text("t")), api.ErrArg}, {in(text("t"), wordy(element("{\xff}"))), api.ErrArg},
	} {
		if e := xmlout.Check(c.n); e != c.want {
			t.Errorf("%s: %v, not %v", testaid.Node(c.n), e, c.want)
		}
		check(t, c.n)
	}
}

// chain is as many elements one in the other, the innermost one with such children.
func chain(n int, kids ...api.Node) api.Node {
	x := within(element("a"), kids...)
	for range n - 1 {
		x = within(element("a"), x)
	}
	return x
}

// P6.1: as deep as may be, and one more; a text node may be one deeper; what is too deep goes ahead of what else is wrong with it, but not of what is wrong above or ahead of it.
func TestDepth(t *testing.T) {
	wrong := within(element("{\xff}:", ":=1"), text(""))
	wrong.Text = "t"
	beside := chain(199, chain(201-199), text("\xff"))
	ahead := chain(199, text("\xff"), chain(202-199))
	above := chain(199, within(element("a", "b=\xff"), element("b")))
	for i, c := range []struct {
		n    api.Node
		want api.Errno
	}{
		{chain(200), api.OK}, {chain(201), api.ErrDeep}, {chain(202), api.ErrDeep}, {chain(300), api.ErrDeep}, {chain(200, text("t")), api.OK}, {chain(200, text("\xff")), api.ErrUtf}, {chain(200, text("")), api.ErrArg}, {chain(200, within(text("t"), text("u"))), api.ErrArg},
		{chain(200, wrong), api.ErrDeep}, {chain(199, element("b"), element("c", "d=1")), api.OK}, {chain(200, text("t"), element("b")), api.ErrDeep}, {chain(199, element("b"), chain(2)), api.ErrDeep}, {chain(199, wrong), api.ErrArg},
		{beside, api.ErrDeep}, {ahead, api.ErrUtf}, {above, api.ErrUtf},
	} {
		if e := xmlout.Check(c.n); e != c.want {
			t.Errorf("%d: %v, not %v", i, e, c.want)
		}
		check(t, c.n)
	}
}

// P6.1 to P6.3: all rows of few attributes, right and wrong ones.
func TestEveryAttribute(t *testing.T) {
	var attrs []string
	for _, space := range []string{"", "{u}", "{v}", "{" + xmlSpace + "}", "{" + api.Uri + "}", "{" + xmlnsSpace + "}", "{\xff}"} {
		for _, local := range []string{"b", "c", "xmlns", ":", ""} {
			attrs = append(attrs, space+local+"=1")
		}
		attrs = append(attrs, space+"b=\xff", space+"b=2")
	}
	testaid.EveryRow(attrs, 3, func(row []string) {
		check(t, element("a", row...))
	})
	right := slices.DeleteFunc(attrs, func(s string) bool { return xmlout.Check(element("a", s)) != api.OK || strings.HasSuffix(s, "2") })
	testaid.EveryRow(right[:6], 5, func(row []string) {
		check(t, within(element("{v}a"), element("{w}a", row...), element("{u}a", row...)))
	})
}

// P6.1 to P6.3: all rows of few children, right and wrong ones.
func TestEveryKid(t *testing.T) {
	kids := []api.Node{
		text("t"), text(" "), text("&\r"), text(""), text("\xff"), element("{u}"), within(text("t"), text("u")),
		element("b"), element("{u}b"), element("{v}b", "{u}c=1", "c=2"), element("{"+api.Uri+"}b", "{w}c=1", "{v}c=2"), within(element("b"), text("t")), within(element("{w}b"), element("{v}c"), text("t")),
		element(":"), element("{\x00}b"), element("b", "c=1", "c=2"), within(element("b"), text("t"), text("u")), within(element("{w}b"), element("{u}c"), element(":")),
	}
	testaid.EveryRow(kids, 4, func(row []api.Node) {
		check(t, within(element("{z}a"), row...))
	})
	testaid.EveryRow(kids, 2, func(row []api.Node) { check(t, within(text(""), row...)) })
}

// chance is a tree by chance, up to a depth; wrong says of how many things one may be wrong.
func chance(r *rand.Rand, deep, wrong int) api.Node {
	some := func(right []string, others ...string) string {
		if r.Intn(wrong) == 0 {
			return others[r.Intn(len(others))]
		}
		return right[r.Intn(len(right))]
	}
	space := func() string {
		return some([]string{"", "", "u", "v", "w&\"\n", api.Uri, xmlSpace}, "\xff", xmlnsSpace)
	}
	n := api.Node{At: r.Intn(100), Name: api.Name{Space: space(), Local: some([]string{"a", "b", "\u00e4"}, "", ":", "1")}}
	for range r.Intn(4) {
		a := api.Attr{Name: api.Name{Space: space(), Local: some([]string{"c", "d", "e", "f"}, "", "xmlns", ":")}, Value: some([]string{"1", "", "<\r"}, "\x00")}
		if r.Intn(wrong) == 0 || !slices.ContainsFunc(n.Attrs, func(b api.Attr) bool { return a.Name == b.Name }) {
			n.Attrs = append(n.Attrs, a)
		}
	}
	for i := 0; deep > 0 && i < r.Intn(5); i++ {
		behindText := i > 0 && n.Kids[i-1].Name.Local == ""
		if r.Intn(3) == 0 && (!behindText || r.Intn(wrong) == 0) {
			n.Kids = append(n.Kids, api.Node{At: r.Intn(100), Text: some([]string{"t", " ", "]]>"}, "", "\xff")})
		} else {
			n.Kids = append(n.Kids, chance(r, deep-1, wrong))
		}
	}
	return n
}

// P6.1 to P6.3: trees by chance, of which some are wrong somewhere.
func TestChance(t *testing.T) {
	r := rand.New(rand.NewSource(6))
	right := 0
	for i := range 10000 {
		n := chance(r, 6, []int{5, 50, 500, 1 << 30}[i%4])
		check(t, n)
		if xmlout.Check(n) == api.OK {
			right++
		}
	}
	if right < 2500 || right > 9500 {
		t.Errorf("%d right trees", right)
	}
}

// P6.2: Sorted is asked of all trees, wrong ones too; equal ones stay as they stood, and so do places, of all sizes, and texts.
func TestSorted(t *testing.T) {
	n := api.Node{At: math.MinInt, Name: name("{u}"), Text: "\xff", Attrs: element("a", "b=3", "{u}b=2", "b=1", "=5", "{\xff}b=4", "{\ufffd}b=6", "b=2", "{u}a=1", "=4", "{u}b=1").Attrs, Kids: []api.Node{
		{At: math.MaxInt, Text: "t", Attrs: element("a", "c=1", "b=2", "c=0").Attrs, Kids: []api.Node{{At: -1, Attrs: element("a", "d=1", "c=2").Attrs}}},
		{At: 7}, {At: 8, Text: "u"}, {At: 9, Text: "v"},
	}}
	want := "{u}\"\\xff\"@-9223372036854775808[=5, =4, b=3, b=1, b=2, {u}a=1, {u}b=2, {u}b=1, {\ufffd}b=6, {\xff}b=4](\"t\"@9223372036854775807[b=2, c=1, c=0](@-1[c=2, d=1]), @7, \"u\"@8, \"v\"@9)"
	if got := testaid.Node(xmlout.Sorted(n)); got != want {
		t.Errorf("%s, not %s", got, want)
	}
	check(t, n)
	if got := xmlout.Sorted(api.Node{}); !reflect.DeepEqual(got, api.Node{}) {
		t.Error(testaid.Node(got))
	}
	for i := range 40 { // more than a short list's way of sorting takes
		n.Attrs = append(n.Attrs, element("a", "b="+strconv.Itoa(i), "{v}c="+strconv.Itoa(i), "B="+strconv.Itoa(i)).Attrs...)
	}
	check(t, n)
}

// P6.1, P6.2, P1: trees that are handed in may be deeper than the stack; a small stack stands for a deeper one.
func TestDeeper(t *testing.T) {
	defer debug.SetMaxStack(debug.SetMaxStack(1 << 20))
	n := chain(1<<17, element("b", "d=1", "c=2"))
	texts := text("t")
	for range 1 << 17 {
		texts = within(text("t"), texts)
	}
	for i, c := range []struct {
		n    api.Node
		want api.Errno
	}{{n, api.ErrDeep}, {within(element("a"), texts), api.ErrArg}, {texts, api.ErrArg}} {
		b, be := xmlout.Write(c.n)
		l, le := xmlout.Prefixes(c.n)
		if e := xmlout.Check(c.n); e != c.want || be != c.want || le != c.want || b != nil || l != nil {
			t.Errorf("%d: %v %v %v", i, e, be, le)
		}
	}
	sorted := xmlout.Sorted(n)
	for range 1 << 17 {
		sorted = sorted.Kids[0]
	}
	if testaid.Node(sorted) != `b@0[c=2, d=1]` {
		t.Error(testaid.Node(sorted))
	}
}

// P6.1 to P6.3: very many children, attributes and namespaces, in a time that goes with the bytes.
func TestLong(t *testing.T) {
	n := 1 << 16
	attrs, spaces, kids := element("a"), element("a"), element("a")
	deep := chain(199)
	inmost := &deep
	for len(inmost.Kids) > 0 {
		inmost = &inmost.Kids[0]
	}
	for i := range n {
		s := strconv.Itoa(i)
		attrs.Attrs = append(attrs.Attrs, element("a", "b"+s+"=1", "{u}b"+s+"=2").Attrs...)
		spaces.Kids = append(spaces.Kids, element("{u"+s+"}b", "{v}c=1"))
		kids.Kids = append(kids.Kids, text("t"), element("{u}b"))
		inmost.Kids = append(inmost.Kids, text("t"), element("{u}b", "c=1"))
	}
	for i, x := range []api.Node{attrs, spaces, kids, deep, within(element("a"), text(strings.Repeat("&", 1<<20)))} {
		b, e := xmlout.Write(x)
		m, at, re := xmltree.Read(b)
		if e != api.OK || at != len(b) || re != api.OK || !xmltree.Same(m, xmlout.Sorted(x)) {
			t.Errorf("%d: %v, %d %v", i, e, at, re)
		}
	}
	l, e := xmlout.Prefixes(spaces)
	if e != api.OK || len(l) != n+1 || l[1] != (api.Pair{Name: "n2", Value: "v"}) || l[n] != (api.Pair{Name: "n" + strconv.Itoa(n+1), Value: "u" + strconv.Itoa(n-1)}) {
		t.Errorf("%d, %v", len(l), e)
	}
}

// full is a tree with something of all that one may have; behind each list's length lies what would be wrong.
func full() api.Node {
	n := within(element("{v}a", "{u}b=1", "z=1", "c=2"), text("t"), within(element("{w}b", "{w}f=1", "e=2"), text("u"), element("c")), element("d"))
	n.At, n.Kids[1].At, n.Kids[2].At = 1, 2, 3
	lengthen(&n)
	return n
}

func lengthen(n *api.Node) {
	n.Attrs = append(n.Attrs, element("a", "xmlns=#", ":=#").Attrs...)[:len(n.Attrs)]
	n.Kids = append(n.Kids, text(""), text("\xff"))[:len(n.Kids)]
	for i := range n.Kids {
		lengthen(&n.Kids[i])
	}
}

// all is all of a tree as a text, also what lies behind its lists.
func all(n api.Node) string {
	n.Attrs, n.Kids = n.Attrs[:cap(n.Attrs)], slices.Clone(n.Kids[:cap(n.Kids)])
	s := testaid.Node(n)
	for _, kid := range n.Kids {
		s += "; " + all(kid)
	}
	return s
}

// spoil changes all of a tree, and what lies behind its lists.
func spoil(n *api.Node) {
	n.At, n.Name, n.Text = -9, name("{#}#"), "#"
	n.Attrs, n.Kids = n.Attrs[:cap(n.Attrs)], n.Kids[:cap(n.Kids)]
	for i := range n.Attrs {
		n.Attrs[i] = api.Attr{Value: "#"}
	}
	for i := range n.Kids {
		spoil(&n.Kids[i])
	}
}

// Rules 2, 4: what is handed in isn't changed, what lies behind its lists isn't read, and no answer hangs on another one.
func TestLists(t *testing.T) {
	n := full()
	want := `<n1:a xmlns:n1="v" xmlns:n2="u" xmlns:n3="w" c="2" z="1" n2:b="1">t<n3:b e="2" n3:f="1">u<c/></n3:b><d/></n1:a>`
	wantSorted := `{v}a@1[c=2, z=1, {u}b=1]("t"@0, {w}b@2[e=2, {w}f=1]("u"@0, c@0), d@3)`
	b, _ := xmlout.Write(n)
	l, _ := xmlout.Prefixes(n)
	one := xmlout.Sorted(n)
	two := xmlout.Sorted(n)
	if string(b) != want || len(l) != 3 || testaid.Node(one) != wantSorted || xmlout.Check(n) != api.OK {
		t.Errorf("%s, %v, %s", b, l, testaid.Node(one))
	}
	if all(n) != all(full()) {
		t.Errorf("what was handed in is changed: %s", testaid.Node(n))
	}
	for i := range b {
		b[i] = '#'
	}
	clear(l)
	spoil(&one)
	if again, _ := xmlout.Write(n); string(again) != want {
		t.Errorf("%s", again)
	}
	if again, _ := xmlout.Prefixes(n); len(again) != 3 || again[0] != (api.Pair{Name: "n1", Value: "v"}) {
		t.Error(again)
	}
	if all(n) != all(full()) || testaid.Node(two) != wantSorted {
		t.Errorf("%s and %s hang on an answer", testaid.Node(n), testaid.Node(two))
	}
	spoil(&n)
	if testaid.Node(two) != wantSorted {
		t.Errorf("%s hangs on what was handed in", testaid.Node(two))
	}
}

// Rule 4: a list that stands in a tree at two places is answered as two.
func TestShared(t *testing.T) {
	kids := []api.Node{element("c", "z=1", "y=2")}
	n := xmlout.Sorted(within(element("a"), within(element("b"), kids...), within(element("b"), kids...)))
	spoil(&n.Kids[0])
	if testaid.Node(n.Kids[1]) != `b@0(c@0[y=2, z=1])` {
		t.Error(testaid.Node(n.Kids[1]))
	}
}
