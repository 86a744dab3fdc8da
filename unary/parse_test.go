package unary_test

import (
	"math/rand"
	"slices"
	"strings"
	"sync"
	"testing"

	"tipstave/api"
	"tipstave/expr"
	"tipstave/feellex"
	"tipstave/feelprint"
	"tipstave/scope"
	"tipstave/testaid"
	"tipstave/unary"
)

var (
	of, name, num = testaid.Of, testaid.Name, testaid.Num
	list, chain   = testaid.List, testaid.Chain
	whole         = testaid.Tests
	rules         = testaid.RulesOf(6)
	none          = api.Tests{}
)

// ordinary are the names that are in scope of most texts.
func ordinary() []string { return []string{"a", "a b", "b", "low risk"} }

func some(l ...api.Expr) api.Tests   { return api.Tests{L: l} }
func noneOf(l ...api.Expr) api.Tests { return api.Tests{Not: true, L: l} }

// times is a text so many times.
func times(n int, s string) string { return strings.Repeat(s, n) }

func scopeOf(t *testing.T, l ...string) *scope.Scope {
	t.Helper()
	s, e := scope.New(l...)
	if e != api.OK {
		t.Fatalf("New(%.80q): %d", l, e)
	}
	return s
}

// holdAnswer holds what Parse answers of a text against what it must be.
func holdAnswer(t *testing.T, s string, names *scope.Scope, want api.Tests, at int, e api.Errno) {
	t.Helper()
	x, n, f := unary.Parse(s, names)
	if n != at || f != e || whole(x) != whole(want) {
		t.Fatalf("Parse(%.300q): %s %d %d, want %s %d %d", s, shown(x), n, f, shown(want), at, e)
	}
}

// hold holds Parse against the chapter, and tells whether the text is right so far: it is all right, or wrong at its end alone.
func hold(t *testing.T, s string, names ...string) bool {
	t.Helper()
	tokens, at, e := feellex.Lex(s)
	want := none
	if e == api.OK {
		want, at, e = testaid.ToldTests(rules, tokens, names)
	}
	in := scopeOf(t, names...)
	holdAnswer(t, s, in, want, at, e)
	if e == api.OK {
		holdAgain(t, want, in)
	}
	return at == len(s)
}

// holdAgain holds P13.3 of right tests whose names are in scope.
func holdAgain(t *testing.T, x api.Tests, names *scope.Scope) {
	t.Helper()
	if e, f := unary.Check(x), unary.Scoped(x, names); e != api.OK || f != api.OK {
		t.Fatalf("%s: Check %d, Scoped %d", shown(x), e, f)
	}
	text, _ := unary.Print(x)
	holdAnswer(t, text, names, x, len(text), api.OK)
	y, _, _ := unary.Parse(text, names)
	if !unary.Same(x, y) {
		t.Fatalf("%s isn't the same as it is parsed", shown(x))
	}
}

// P13.1: the examples, and which tests each text is.
func TestExamples(t *testing.T) {
	a, b, one, two := name("a"), name("b"), num("1"), num("2")
	test := func(s string, x api.Expr) api.Expr { return of(api.TestExpr, s, x) }
	neg := func(x api.Expr) api.Expr { return of(api.NegExpr, "", x) }
	in := scopeOf(t, ordinary()...)
	for s, want := range map[string]api.Tests{
		"< 5, [7..9]":                   some(test("<", num("5")), of(api.SpanExpr, "[]", num("7"), num("9"))),
		"not(1, 2)":                     noneOf(one, two),
		"-":                             {Any: true},
		" \t\r\n- \n":                   {Any: true},
		"-1":                            some(neg(one)),
		"- a":                           some(neg(a)),
		"--a":                           some(neg(neg(a))),
		"-a, -b":                        some(neg(a), neg(b)),
		"1":                             some(one),
		"1,2":                           some(one, two),
		"low \n risk":                   some(name("low risk")),
		"<5,>= a b +1 ,[1..2)":          some(test("<", num("5")), test(">=", of(api.BinExpr, "+", name("a b"), one)), of(api.SpanExpr, "[)", one, two)),
		"<= 1, > 2":                     some(test("<=", one), test(">", two)),
		"< -a":                          some(test("<", neg(a))),
		"not ( \"x\" , a )":             noneOf(of(api.StrExpr, "x"), a),
		"not(< a)":                      noneOf(test("<", a)),
		"not((a))":                      noneOf(a),
		"not((1..2), [1])":              noneOf(of(api.SpanExpr, "()", one, two), list(one)),
		"not(-1)":                       noneOf(neg(one)),
		"not(if a then 1 else 2, b)":    noneOf(of(api.IfExpr, "", a, one, two), b),
		"(a)":                           some(a),
		"(a), (b)":                      some(a, b),
		"(-1)":                          some(neg(one)),
		"a or b, a = 1":                 some(of(api.BinExpr, "or", a, b), of(api.BinExpr, "=", a, one)),
		"a < 1":                         some(of(api.BinExpr, "<", a, one)),
		"a in < 1, < 1":                 some(of(api.InExpr, "", a, test("<", one)), test("<", one)),
		"a(1, 2), [1, 2], {x: 1, y: 2}": some(of(api.CallExpr, "", a, one, two), list(one, two), testaid.Map([]string{"x", "y"}, one, two)),
		"function(x, y) x, 1":           some(testaid.Function(name("x"), "x", "y"), one),
		"for x in a return x, b":        some(of(api.ForExpr, "x", a, name("x")), b),
		"a[item], b":                    some(of(api.FilterExpr, "", a, name("item")), b),
		"\"-\"":                         some(of(api.StrExpr, "-")),
		"\"not\", \",\"":                some(of(api.StrExpr, "not"), of(api.StrExpr, ",")),
		"null, true, 007.50":            some(of(api.ConstExpr, "null"), of(api.ConstExpr, "true"), num("7.5")),
	} {
		holdAnswer(t, s, in, want, len(s), api.OK)
		hold(t, s, ordinary()...)
	}
}

// P13.1: what is wrong first, and where.
func TestWrong(t *testing.T) {
	in := scopeOf(t, ordinary()...)
	for _, c := range []struct {
		s  string
		at int
		e  api.Errno
	}{
		{"not 1", 4, api.ErrSyntax},
		{"", 0, api.ErrSyntax},
		{" \n", 2, api.ErrSyntax},
		{"not", 3, api.ErrSyntax},
		{"not ", 4, api.ErrSyntax},
		{"not()", 4, api.ErrSyntax},
		{"not(", 4, api.ErrSyntax},
		{"not(1", 5, api.ErrSyntax},
		{"not(1,", 6, api.ErrSyntax},
		{"not(1,)", 6, api.ErrSyntax},
		{"not(,1)", 4, api.ErrSyntax},
		{"not(1]", 5, api.ErrSyntax},
		{"not[1]", 3, api.ErrSyntax},
		{"not(1 2)", 6, api.ErrSyntax},
		{"not(1),2", 6, api.ErrSyntax},
		{"not(1) or a", 7, api.ErrSyntax},
		{"not(1).x", 6, api.ErrSyntax},
		{"not(1)(2)", 6, api.ErrSyntax},
		{"not(1))", 6, api.ErrSyntax},
		{"not(-)", 5, api.ErrSyntax},
		{"not(-, 1)", 5, api.ErrSyntax},
		{"not(not(1))", 4, api.ErrSyntax},
		{"not not(1)", 4, api.ErrSyntax},
		{"not(1..2)", 5, api.ErrSyntax},
		{"(not(1))", 1, api.ErrSyntax},
		{"1, not(1)", 3, api.ErrSyntax},
		{"- not(1)", 2, api.ErrSyntax},
		{"\"not\"(", 6, api.ErrSyntax},
		{"\"not\" 1", 6, api.ErrSyntax},
		{"not \"(\" 1)", 4, api.ErrSyntax},
		{"not(1 \")\"", 6, api.ErrSyntax},
		{"1 \",\" 2", 2, api.ErrSyntax},
		{"- -", 3, api.ErrSyntax},
		{"-,", 1, api.ErrSyntax},
		{"-, 1", 1, api.ErrSyntax},
		{"1, -", 4, api.ErrSyntax},
		{"(-)", 2, api.ErrSyntax},
		{"-)", 1, api.ErrSyntax},
		{"- < 1", 2, api.ErrSyntax},
		{"1,", 2, api.ErrSyntax},
		{",1", 0, api.ErrSyntax},
		{"1,,2", 2, api.ErrSyntax},
		{"1 2", 2, api.ErrSyntax},
		{"1)", 1, api.ErrSyntax},
		{"1]", 1, api.ErrSyntax},
		{"(1, 2)", 2, api.ErrSyntax},
		{"< 1 < 2", 4, api.ErrSyntax},
		{"< 1 or a", 4, api.ErrSyntax},
		{"< 1 and < 2", 4, api.ErrSyntax},
		{"1 < 2 < 3", 6, api.ErrSyntax},
		{"= 1", 0, api.ErrSyntax},
		{"1, != 2", 3, api.ErrSyntax},
		{"<", 1, api.ErrSyntax},
		{"<, 1", 1, api.ErrSyntax},
		{"< if a then 1 else 2", 2, api.ErrSyntax},
		{"a b b", 4, api.ErrSyntax},
		{"low", 0, api.ErrScope},
		{"q", 0, api.ErrScope},
		{"q, )", 0, api.ErrScope},
		{"), q", 0, api.ErrSyntax},
		{"1, q, r", 3, api.ErrScope},
		{"not(1, < q", 9, api.ErrScope},
		{"not(for x in a return x, x)", 25, api.ErrScope},
		{"a[item], item", 9, api.ErrScope},
		{"function(p) p, p", 15, api.ErrScope},
		{"1, {k: 1, k: 2}", 10, api.ErrTwice},
		{"function(p, p) 1, )", 12, api.ErrTwice},
		{"1, " + times(1001, "1") + ", q", 3, api.ErrLong},
		{"1 ?", 2, api.ErrLex},
		{") ?", 2, api.ErrLex},
		{"- ?", 2, api.ErrLex},
		{"not(q, \"", 8, api.ErrShort},
		{"- \xff", 2, api.ErrUtf},
	} {
		holdAnswer(t, c.s, in, none, c.at, c.e)
		hold(t, c.s, ordinary()...)
	}
	holdAnswer(t, "a", nil, none, 0, api.ErrScope)
	holdAnswer(t, "1, a", scopeOf(t), none, 3, api.ErrScope)
	holdAnswer(t, "1", nil, some(num("1")), 1, api.OK)
	holdAnswer(t, "-", nil, api.Tests{Any: true}, 1, api.OK)
}

// P13.1: every short row of tokens that may go on is gone on with each token.
func TestEveryRow(t *testing.T) {
	all := strings.Fields("a b item 1 \"s\" true not if then else for some every in return satisfies function and or between + - * ** = != < <= > >= ( ) [ ] { } , : . ..")
	for _, c := range []struct {
		begin  string
		tokens []string
		most   int
	}{
		{"", all, 3},
		{"not", all, 2},
		{"not (", all, 2},
		{"-", all, 2},
		{"not ( a", all, 2},
		{"a ,", all, 2},
		{"", strings.Fields("a - , ( ) not <"), 6},
		{"not (", strings.Fields("a - , ( ) ] .. <"), 5},
		{"", strings.Fields("1 < >= , or - in"), 6},
		{"not ( 1 )", all, 1},
	} {
		t.Run(c.begin, func(t *testing.T) {
			t.Parallel()
			var grow func(s string, left int)
			grow = func(s string, left int) {
				if !hold(t, s, "a", "a b", "b") || left == 0 {
					return
				}
				for _, token := range c.tokens {
					grow(s+" "+token, left-1)
				}
			}
			grow(c.begin, c.most)
		})
	}
}

// P13.1: every short text of some bytes.
func TestEveryText(t *testing.T) {
	testaid.EveryText([]string{"-", "not", "(", ")", " ", "a", ",", "<", "\"", "?"}, 4, func(s string) { hold(t, s, "a") })
	for b := range 256 {
		s := string([]byte{byte(b)})
		for _, s := range []string{s, "-" + s, s + "-", "a" + s, "not" + s, "not(a)" + s, "a," + s} {
			hold(t, s, "a")
		}
	}
}

// spaced are tokens as a text, with blanks by chance between.
func spaced(t *testing.T, r *rand.Rand, l []api.Lex) string {
	t.Helper()
	var s strings.Builder
	for _, x := range l {
		text, e := feellex.Text(x)
		if e != api.OK {
			t.Fatal(x, e)
		}
		s.WriteString(text + []string{" ", "  ", "\n", "\t\r\n "}[r.Intn(4)])
	}
	return s.String()
}

// disturbed are tokens with some lacking, doubled, or others.
func disturbed(r *rand.Rand, tokens, other []api.Lex) []api.Lex {
	for range r.Intn(4) {
		i := r.Intn(len(tokens) + 1)
		x := other[r.Intn(len(other))]
		switch r.Intn(3) {
		case 0:
			tokens = slices.Insert(tokens, i, x)
		case 1:
			tokens = slices.Delete(tokens, max(i-1, 0), i)
		case 2:
			tokens = slices.Replace(tokens, max(i-1, 0), i, x)
		}
	}
	return tokens
}

// P13.1: right texts by chance, and the same with some tokens lacking, doubled, or others.
func TestByChance(t *testing.T) {
	t.Parallel()
	other, _, _ := feellex.Lex("a b item x 1 \"s\" not not not ( ( ) ) , , , - - < >= if then else for in return function and or = [ ] { } : ..")
	other = other[:len(other)-1]
	told := map[api.Errno]int{}
	r := rand.New(rand.NewSource(2))
	for range 4000 {
		x := anyTests(r)
		text, e := unary.Print(x)
		if e != api.OK {
			t.Fatalf("Print(%s): %d", shown(x), e)
		}
		tokens, _, _ := feellex.Lex(text)
		s := spaced(t, r, disturbed(r, tokens[:len(tokens)-1], other))
		names := append(free(x), "a")
		if r.Intn(6) == 0 {
			names = names[1:]
		}
		if r.Intn(50) == 0 {
			s += "?"
		}
		hold(t, s, names...)
		_, _, e = unary.Parse(s, scopeOf(t, names...))
		told[e]++
	}
	for _, e := range []api.Errno{api.OK, api.ErrSyntax, api.ErrScope, api.ErrTwice, api.ErrLex} {
		if told[e] < 3 {
			t.Errorf("%d told %d times", e, told[e])
		}
	}
}

// P13.3: right tests by chance, in the scope of their names and of more.
func TestPrintedIsParsed(t *testing.T) {
	t.Parallel()
	r := rand.New(rand.NewSource(3))
	for range 4000 {
		x := anyTests(r)
		names := free(x)
		holdAgain(t, x, scopeOf(t, names...))
		holdAgain(t, x, scopeOf(t, append(names, "a", "b", "a b c", "b a", "item a")...))
	}
}

// P13.3: each kind of expression, and each test of it, alone, ahead of and behind another one.
func TestEveryKindAgain(t *testing.T) {
	var l []api.Expr
	for _, x := range testaid.RightExprs()[:api.TestExpr] {
		l = append(l, x)
		for _, sign := range testaid.TestSigns() {
			l = append(l, of(api.TestExpr, sign, x))
		}
	}
	in := scopeOf(t, "a", "item")
	for _, x := range l {
		holdAgain(t, some(x), in)
		holdAgain(t, noneOf(x), in)
		for _, y := range l {
			holdAgain(t, some(x, y), in)
			holdAgain(t, noneOf(x, y, x), in)
		}
	}
}

// P13.1: the ( of not is no nesting; all others are, and the depth is that of layer 12's Test.
func TestDeep(t *testing.T) {
	in := scopeOf(t, "a")
	round := func(n int) string { return times(n, "(") + "a" + times(n, ")") }
	minus := func(n int) string { return times(n, "-") + "a" }
	for _, c := range []struct {
		s  string
		at int
		e  api.Errno
	}{
		{round(200), 401, api.OK},
		{round(201), 200, api.ErrDeep},
		{"not(" + round(200) + ")", 406, api.OK},
		{"not(" + round(201) + ")", 204, api.ErrDeep},
		{"not(a, " + round(200) + ")", 409, api.OK},
		{"not(a, " + round(201) + ")", 207, api.ErrDeep},
		{round(200) + ", " + round(200), 804, api.OK},
		{round(200) + ", " + round(201), 603, api.ErrDeep},
		{"not(" + round(200) + "," + round(200) + "," + round(200) + ")", 1210, api.OK},
		{"< " + round(200), 403, api.OK},
		{"< " + round(201), 202, api.ErrDeep},
		{minus(199), 200, api.OK},
		{minus(200), 0, api.ErrDeep},
		{"not(" + minus(199) + ")", 205, api.OK},
		{"not(" + minus(200) + ")", 4, api.ErrDeep},
		{"< " + minus(198), 201, api.OK},
		{"< " + minus(199), 0, api.ErrDeep},
		{"< " + minus(200), 2, api.ErrDeep},
		{"a, < " + minus(199) + ", q", 3, api.ErrDeep},
		{"a, < " + minus(199) + " q", 3, api.ErrDeep},
		{"a, < " + minus(198) + " q", 205, api.ErrSyntax},
		{"q, " + minus(200), 0, api.ErrScope},
		{times(1000, "a, ") + minus(199), 3200, api.OK},
	} {
		_, at, e := unary.Parse(c.s, in)
		if at != c.at || e != c.e {
			t.Errorf("%.20q, %d bytes: %d %d, want %d %d", c.s, len(c.s), at, e, c.at, c.e)
		}
		if strings.Count(c.s, ",") < 6 {
			hold(t, c.s, "a")
		}
	}
}

// P13.3: as deep as may be, by each kind.
func TestDeepAgain(t *testing.T) {
	in := scopeOf(t, "a", "item")
	for _, x := range testaid.RightExprs()[:api.TestExpr] {
		for i := range x.L {
			y := name("a")
			for range api.MaxDepth - 2 {
				around := x
				around.L = slices.Clone(x.L)
				around.L[i] = y
				y = around
			}
			holdAgain(t, noneOf(of(api.TestExpr, ">", y), y), in)
		}
	}
}

// P13.1: as many names as may be.
func TestTooManyNames(t *testing.T) {
	in := scopeOf(t, testaid.Numbered("n", api.MaxScope)...)
	holdAnswer(t, "n0, n4095", in, some(name("n0"), name("n4095")), 9, api.OK)
	holdAnswer(t, "n0, for x in n1 return q, q", in, none, 4, api.ErrLong)
	holdAnswer(t, "not(n0[1])", in, none, 4, api.ErrLong)
	holdAnswer(t, "q, n0[1]", in, none, 0, api.ErrScope)
}

// P1: very many tests, and very deep ones.
func TestLong(t *testing.T) {
	const n = 1 << 16
	s := times(n, "< 1,") + "2"
	x, at, e := unary.Parse(s, nil)
	if at != len(s) || e != api.OK || len(x.L) != n+1 || x.L[n].S != "2" || x.L[n-1].S != "<" {
		t.Error(at, e, len(x.L))
	}
	for _, c := range []struct {
		s  string
		at int
		e  api.Errno
	}{
		{s + ",", len(s) + 1, api.ErrSyntax},
		{"not(" + s, len(s) + 4, api.ErrSyntax},
		{times(n, "-"), n, api.ErrSyntax},
		{times(n, "("), 200, api.ErrDeep},
		{"not" + times(n, "("), 204, api.ErrDeep},
		{times(n, "not"), 0, api.ErrScope},
		{times(n, "not "), 4, api.ErrSyntax},
		{times(n, ","), 0, api.ErrSyntax},
	} {
		holdAnswer(t, c.s, nil, none, c.at, c.e)
	}
}

// P2, rule 4: what was answered has nothing to do with another answer.
func TestApart(t *testing.T) {
	in := scopeOf(t, "a", "b")
	const text = "not(a, < b, {k: 1})"
	x, _, _ := unary.Parse(text, in)
	y, _, _ := unary.Parse(text, in)
	was := whole(y)
	x.L[0], x.L[1].L[0], x.L[2].Names[0] = of(20, ""), of(20, ""), "?"
	if whole(y) != was {
		t.Errorf("%s, and was %s", whole(y), was)
	}
	holdAnswer(t, text, in, y, len(text), api.OK)
}

// Many parse at a time, with one scope.
func TestSideBySide(t *testing.T) {
	in := scopeOf(t, "a", "b", "a b")
	const text = "not(for x in a b[item > 1] return x, < a)"
	want, _, e := unary.Parse(text, in)
	if e != api.OK || len(want.L) != 2 || expr.Check(want.L[0]) != api.OK {
		t.Error(shown(want), e)
	}
	first, _ := feelprint.Print(want.L[0])
	var group sync.WaitGroup
	for range 8 {
		group.Go(func() {
			for range 300 {
				x, at, e := unary.Parse(text, in)
				if e != api.OK || at != len(text) || !unary.Same(x, want) || unary.Scoped(x, in) != api.OK {
					t.Errorf("%s %d %d", shown(x), at, e)
				}
				if s, e := unary.Print(x); s != "not("+first+", < a)" || e != api.OK {
					t.Errorf("%q %d", s, e)
				}
				if _, at, e := unary.Parse("1, a", nil); e != api.ErrScope || at != 3 {
					t.Errorf("%d %d", at, e)
				}
			}
		})
	}
	group.Wait()
}
