package feelparse_test

import (
	"math/rand"
	"slices"
	"strings"
	"testing"

	"tipstave/api"
	"tipstave/expr"
	"tipstave/feellex"
	"tipstave/feelparse"
	"tipstave/feelprint"
	"tipstave/scope"
	"tipstave/testaid"
)

var (
	of, name, num, list   = testaid.Of, testaid.Name, testaid.Num, testaid.List
	function, maps, chain = testaid.Function, testaid.Map, testaid.Chain
	shown                 = testaid.Shown
	rules                 = testaid.RulesOf(6)
)

func scopeOf(t *testing.T, l ...string) *scope.Scope {
	t.Helper()
	s, e := scope.New(l...)
	if e != api.OK {
		t.Fatalf("New(%.80q): %d", l, e)
	}
	return s
}

func lex(t *testing.T, s string) []api.Lex {
	t.Helper()
	l, _, e := feellex.Lex(s)
	if e != api.OK {
		t.Fatalf("Lex(%.80q): %d", s, e)
	}
	return l
}

// holdAnswer holds what Parse answers of a text against what it must be.
func holdAnswer(t *testing.T, s string, names *scope.Scope, want api.Expr, at int, e api.Errno) {
	t.Helper()
	x, n, f := feelparse.Parse(s, names)
	if n != at || f != e || testaid.Expr(x) != testaid.Expr(want) {
		t.Fatalf("Parse(%.300q): %s %d %d, want %s %d %d", s, shown(x), n, f, shown(want), at, e)
	}
}

// hold holds Parse against the chapter, and tells whether the text is right so far: it is all right, or wrong at its end alone.
func hold(t *testing.T, s string, names ...string) bool {
	t.Helper()
	want, at, e := testaid.ToldParse(rules, lex(t, s), names)
	in := scopeOf(t, names...)
	holdAnswer(t, s, in, want, at, e)
	if e == api.OK {
		holdAgain(t, want, in)
	}
	return at == len(s)
}

// holdAgain holds P12.3 of what was parsed.
func holdAgain(t *testing.T, x api.Expr, names *scope.Scope) {
	t.Helper()
	if e, f := expr.Check(x), expr.Scoped(x, names); e != api.OK || f != api.OK {
		t.Fatalf("%s: Check %d, Scoped %d", shown(x), e, f)
	}
	text, _ := feelprint.Print(x)
	holdAnswer(t, text, names, x, len(text), api.OK)
	bare, _ := feelprint.Bare(x)
	if _, _, e := feelparse.Parse(bare, names); e != api.ErrDeep || expr.Depth(x) <= api.MaxDepth/2 {
		holdAnswer(t, bare, names, x, len(bare), api.OK)
	}
}

// holdWrong holds the place and the error of a wrong text.
func holdWrong(t *testing.T, s string, names *scope.Scope, at int, e api.Errno) {
	t.Helper()
	holdAnswer(t, s, names, api.Expr{}, at, e)
}

// times is a text so many times.
func times(n int, s string) string { return strings.Repeat(s, n) }

// P12.1: each of what may stand, and which expression it is.
func TestEachKind(t *testing.T) {
	a, b, c := name("a"), name("b"), name("c")
	bin := func(x api.Expr, s string, y api.Expr) api.Expr { return of(api.BinExpr, s, x, y) }
	in := scopeOf(t, "a", "b", "c", "net", "net price", "f")
	for s, want := range map[string]api.Expr{
		"net price*2 - b":                     bin(bin(name("net price"), "*", num("2")), "-", b),
		"a":                                   a,
		" \t\r\na \n":                         a,
		"007.50":                              num("7.5"),
		".5":                                  num("0.5"),
		"0.0":                                 num("0"),
		`"a\"\n\u00e4"`:                       of(api.StrExpr, "a\"\n\u00e4"),
		`""`:                                  of(api.StrExpr, ""),
		"true":                                of(api.ConstExpr, "true"),
		"false":                               of(api.ConstExpr, "false"),
		"null":                                of(api.ConstExpr, "null"),
		"net \n price":                        name("net price"),
		"-a":                                  of(api.NegExpr, "", a),
		"- -a":                                of(api.NegExpr, "", of(api.NegExpr, "", a)),
		"-a.b":                                of(api.NegExpr, "", of(api.PathExpr, "b", a)),
		"a-b-c":                               bin(bin(a, "-", b), "-", c),
		"a/b*c":                               bin(bin(a, "/", b), "*", c),
		"a**b**c":                             bin(bin(a, "**", b), "**", c),
		"a or b or c":                         bin(bin(a, "or", b), "or", c),
		"a and b and c":                       bin(bin(a, "and", b), "and", c),
		"a or b and c":                        bin(a, "or", bin(b, "and", c)),
		"a and b or c":                        bin(bin(a, "and", b), "or", c),
		"a=b and b!=c":                        bin(bin(a, "=", b), "and", bin(b, "!=", c)),
		"a<b+c":                               bin(a, "<", bin(b, "+", c)),
		"a+b*c**-a":                           bin(a, "+", bin(b, "*", bin(c, "**", of(api.NegExpr, "", a)))),
		"-a**b*c+a>=c":                        bin(bin(bin(bin(of(api.NegExpr, "", a), "**", b), "*", c), "+", a), ">=", c),
		"a between b and c":                   of(api.BetweenExpr, "", a, b, c),
		"a between b and c and a":             bin(of(api.BetweenExpr, "", a, b, c), "and", a),
		"a+1 between b+1 and c+1":             of(api.BetweenExpr, "", bin(a, "+", num("1")), bin(b, "+", num("1")), bin(c, "+", num("1"))),
		"a in b":                              of(api.InExpr, "", a, b),
		"a in < b":                            of(api.InExpr, "", a, of(api.TestExpr, "<", b)),
		"a in <= b+c or c":                    bin(of(api.InExpr, "", a, of(api.TestExpr, "<=", bin(b, "+", c))), "or", c),
		"a in > b":                            of(api.InExpr, "", a, of(api.TestExpr, ">", b)),
		"a in >= -b":                          of(api.InExpr, "", a, of(api.TestExpr, ">=", of(api.NegExpr, "", b))),
		"a in (b..c]":                         of(api.InExpr, "", a, of(api.SpanExpr, "(]", b, c)),
		"a.b  c.d":                            of(api.PathExpr, "d", of(api.PathExpr, "b c", a)),
		"a[item]":                             of(api.FilterExpr, "", a, name("item")),
		"a[item or b][1]":                     of(api.FilterExpr, "", of(api.FilterExpr, "", a, bin(name("item"), "or", b)), num("1")),
		"f()":                                 of(api.CallExpr, "", name("f")),
		"f(a)(b, if a then b else c)":         of(api.CallExpr, "", of(api.CallExpr, "", name("f"), a), b, of(api.IfExpr, "", a, b, c)),
		"1(2)[3].a":                           of(api.PathExpr, "a", of(api.FilterExpr, "", of(api.CallExpr, "", num("1"), num("2")), num("3"))),
		"(a)":                                 a,
		"((a+b))*c":                           bin(bin(a, "+", b), "*", c),
		"(if a then b else c)":                of(api.IfExpr, "", a, b, c),
		"if a then b else c or a":             of(api.IfExpr, "", a, b, bin(c, "or", a)),
		"if a then if b then 1 else 2 else 3": of(api.IfExpr, "", a, of(api.IfExpr, "", b, num("1"), num("2")), num("3")),
		"for x in a return x":                 of(api.ForExpr, "x", a, name("x")),
		"for net \t cost in a return net":     of(api.ForExpr, "net cost", a, name("net")),
		"some x in a satisfies x=b":           of(api.SomeExpr, "x", a, bin(name("x"), "=", b)),
		"every x in a satisfies x in b":       of(api.EveryExpr, "x", a, of(api.InExpr, "", name("x"), b)),
		"function() a":                        function(a),
		"function(x)x+a":                      function(bin(name("x"), "+", a), "x"),
		"function(x, y z, a) y z":             function(name("y z"), "x", "y z", "a"),
		"[]":                                  list(),
		"[a]":                                 list(a),
		"[a, [b], []]":                        list(a, list(b), list()),
		"{}":                                  maps(nil),
		"{k: a}":                              maps([]string{"k"}, a),
		"{k: a, l m: k, b: l m}":              maps([]string{"k", "l m", "b"}, a, name("k"), name("l m")),
		"(a..b)":                              of(api.SpanExpr, "()", a, b),
		"(a..b]":                              of(api.SpanExpr, "(]", a, b),
		"[a..b]":                              of(api.SpanExpr, "[]", a, b),
		"[1..2)":                              of(api.SpanExpr, "[)", num("1"), num("2")),
		"[1 ..2.5]":                           of(api.SpanExpr, "[]", num("1"), num("2.5")),
		"[(a)..if a then b else c)":           of(api.SpanExpr, "[)", a, of(api.IfExpr, "", a, b, c)),
	} {
		holdAnswer(t, s, in, want, len(s), api.OK)
		hold(t, s, "a", "b", "c", "net", "net price", "f")
	}
}

// P12.1: the examples of the chapter and of the whole, and what is wrong by each of the things that are asked.
func TestWrong(t *testing.T) {
	in := scopeOf(t, "a", "b", "net", "net price", "price", "f")
	for _, c := range []struct {
		s  string
		at int
		e  api.Errno
	}{
		{"net cost", 4, api.ErrSyntax},
		{"1 < 2 < 3", 6, api.ErrSyntax},
		{"q", 0, api.ErrScope},
		{"", 0, api.ErrSyntax},
		{"  ", 2, api.ErrSyntax},
		{"a b", 2, api.ErrSyntax},
		{"price net", 6, api.ErrSyntax},
		{"net price price", 10, api.ErrSyntax},
		{"a\u00e4", 0, api.ErrScope},
		{"net-cost", 4, api.ErrScope},
		{"a + cost of net", 4, api.ErrScope},
		{"a )", 2, api.ErrSyntax},
		{"(a", 2, api.ErrSyntax},
		{"(a}", 2, api.ErrSyntax},
		{"(a,b)", 2, api.ErrSyntax},
		{"()", 1, api.ErrSyntax},
		{"(a]", 2, api.ErrSyntax},
		{"[a)", 2, api.ErrSyntax},
		{"(a..)", 4, api.ErrSyntax},
		{"(a..b", 5, api.ErrSyntax},
		{"(a..b}", 5, api.ErrSyntax},
		{"(a..b..b)", 5, api.ErrSyntax},
		{"[a,b..b]", 4, api.ErrSyntax},
		{"[a..b,b]", 5, api.ErrSyntax},
		{"a..b", 1, api.ErrSyntax},
		{"[,]", 1, api.ErrSyntax},
		{"[a,]", 3, api.ErrSyntax},
		{"[a b]", 3, api.ErrSyntax},
		{"a[]", 2, api.ErrSyntax},
		{"a[b,b]", 3, api.ErrSyntax},
		{"a[b..b]", 3, api.ErrSyntax},
		{"f(a,)", 4, api.ErrSyntax},
		{"f(,a)", 2, api.ErrSyntax},
		{"f(a..b)", 3, api.ErrSyntax},
		{"f(a", 3, api.ErrSyntax},
		{"a.", 2, api.ErrSyntax},
		{"a.1", 1, api.ErrSyntax},
		{"a. 1", 3, api.ErrSyntax},
		{"a.if", 2, api.ErrSyntax},
		{"a.b if", 4, api.ErrSyntax},
		{`a."b"`, 2, api.ErrSyntax},
		{"1 2", 2, api.ErrSyntax},
		{"1a", 1, api.ErrSyntax},
		{`a "+" b`, 2, api.ErrSyntax},
		{`a "or" b`, 2, api.ErrSyntax},
		{`"-" a`, 4, api.ErrSyntax},
		{`a "[" b]`, 2, api.ErrSyntax},
		{`a ".." b`, 2, api.ErrSyntax},
		{`(a ".." b)`, 3, api.ErrSyntax},
		{`"if" a then b else b`, 5, api.ErrSyntax},
		{`if a "then" b else b`, 5, api.ErrSyntax},
		{`f(a ")"`, 4, api.ErrSyntax},
		{`{"k": a}`, 1, api.ErrSyntax},
		{"not a", 0, api.ErrSyntax},
		{"not(a)", 0, api.ErrSyntax},
		{"a not in b", 2, api.ErrSyntax},
		{"< a", 0, api.ErrSyntax},
		{"a in (< b)", 6, api.ErrSyntax},
		{"a in = b", 5, api.ErrSyntax},
		{"a in < < b", 7, api.ErrSyntax},
		{"a in < b < b", 9, api.ErrSyntax},
		{"a in b in b", 7, api.ErrSyntax},
		{"a in if a then b else b", 5, api.ErrSyntax},
		{"a = b = a", 6, api.ErrSyntax},
		{"a = b between a and b", 6, api.ErrSyntax},
		{"a between b", 11, api.ErrSyntax},
		{"a between b or b", 12, api.ErrSyntax},
		{"a between b and a between b and a", 18, api.ErrSyntax},
		{"a between b < a and b", 12, api.ErrSyntax},
		{"a + if a then b else b", 4, api.ErrSyntax},
		{"-if a then b else b", 1, api.ErrSyntax},
		{"a or for x in a return x", 5, api.ErrSyntax},
		{"+a", 0, api.ErrSyntax},
		{"a + + b", 4, api.ErrSyntax},
		{"a +", 3, api.ErrSyntax},
		{"- ", 2, api.ErrSyntax},
		{"a ** - * b", 7, api.ErrSyntax},
		{"if a b", 5, api.ErrSyntax},
		{"if a then b", 11, api.ErrSyntax},
		{"if then a else b", 3, api.ErrSyntax},
		{"if a else b", 5, api.ErrSyntax},
		{"then", 0, api.ErrSyntax},
		{"for in a return b", 4, api.ErrSyntax},
		{"for 1 in a return b", 4, api.ErrSyntax},
		{"for x return b", 6, api.ErrSyntax},
		{"for x in a satisfies b", 11, api.ErrSyntax},
		{"some x in a return b", 12, api.ErrSyntax},
		{"every x in a return b", 13, api.ErrSyntax},
		{"for x, y in a return b", 5, api.ErrSyntax},
		{"function", 8, api.ErrSyntax},
		{"function a", 9, api.ErrSyntax},
		{"function(", 9, api.ErrSyntax},
		{"function(x", 10, api.ErrSyntax},
		{"function(x,) a", 11, api.ErrSyntax},
		{"function(,) a", 9, api.ErrSyntax},
		{"function(1) a", 9, api.ErrSyntax},
		{"function(x: a) a", 10, api.ErrSyntax},
		{"function(x)", 11, api.ErrSyntax},
		{"function(x y, z, x  y) a", 17, api.ErrTwice},
		{"function(x, x 1", 12, api.ErrTwice},
		{"function(x, x", 12, api.ErrTwice},
		{"{", 1, api.ErrSyntax},
		{"{a}", 2, api.ErrSyntax},
		{"{a 1}", 3, api.ErrSyntax},
		{"{a:}", 3, api.ErrSyntax},
		{"{a: 1,}", 6, api.ErrSyntax},
		{"{a: 1, : 2}", 7, api.ErrSyntax},
		{"{a: 1]", 5, api.ErrSyntax},
		{"{a: 1 b: 2}", 6, api.ErrSyntax},
		{"{1: 1}", 1, api.ErrSyntax},
		{"{if: 1}", 1, api.ErrSyntax},
		{"{k: 1, l: 2, k: 3}", 13, api.ErrTwice},
		{"{k: 1, k 2}", 7, api.ErrTwice},
		{"{x y: 1, x \n y: 2}", 9, api.ErrTwice},
		{"{k: k}", 4, api.ErrScope},
	} {
		holdWrong(t, c.s, in, c.at, c.e)
		hold(t, c.s, "a", "b", "net", "net price", "price", "f")
	}
}

// P12.1: what is wrong with tokens goes ahead of all else.
func TestLexGoesAhead(t *testing.T) {
	in := scopeOf(t, "a")
	for _, s := range []string{"a ?", "? q", ") q ?", "\"a", "a + \"\\q\"", "q \x00", ") ) \xff", "\"\xc3", ") \"\\u00", times(300, "(") + "!", times(1001, "9") + "\xff"} {
		_, at, e := feellex.Lex(s)
		if e == api.OK {
			t.Errorf("%q", s)
		}
		holdWrong(t, s, in, at, e)
	}
}

// P12.1: the longest name in scope, of the words that stand there and no more.
func TestLongestName(t *testing.T) {
	t.Parallel()
	in := []string{"a", "a b c", "b", "b c", "c d e", "item"}
	testaid.EveryRow([]string{"a", "b", "c", "d", "e", "item", "if", "."}, 4, func(l []string) {
		hold(t, strings.Join(l, " "), in...)
		hold(t, "["+strings.Join(l, "\n")+"]", in...)
	})
	for s, want := range map[string]string{
		"a b c": "a b c",
		"{a: 1, a b: 2, b: a b, c: a b c, d: a-b}": "{a: 1, a b: 2, b: a b, c: a b c, d: a - b}",
		"for a b in b c return a b":                "for a b in b c return a b",
	} {
		x, _, e := feelparse.Parse(s, scopeOf(t, in...))
		if text, _ := feelprint.Print(x); e != api.OK || text != want {
			t.Errorf("%q: %q %d", s, text, e)
		}
	}
}

// P12.1: names that an expression brings are in scope where layer 10 says, and nowhere else.
func TestScopes(t *testing.T) {
	in := scopeOf(t, "a", "f")
	for _, s := range []string{
		"for x in a return for x in x return x", "for x in a return [x, (x)]", "for a in a return a", "for x in a return function(y) x+y", "a[item][item]", "a[[item][item=item]]", "f(a[item], function(item) item)",
		"function(x, y) [x, y]", "function() a", "function(x) function(y) [x, y, a]", "{k: 1, l: k, m: [k, l]}", "{k: {k: 1, l: k}, l: k}", "{a: a, b: a}", "some x in a satisfies every y in x satisfies x=y", "function(f) f(a)", "for item in a return a[item=item]",
	} {
		if _, at, e := feelparse.Parse(s, in); e != api.OK || at != len(s) {
			t.Errorf("%q: %d %d", s, at, e)
		}
		hold(t, s, "a", "f")
	}
	for _, c := range []struct {
		s  string
		at int
	}{
		{"for x in x return x", 9}, {"(for x in a return x) + x", 24}, {"[for x in a return x, x]", 22}, {"some x in a[x] satisfies x", 12}, {"every x in [x] satisfies a", 12}, {"(some x in a satisfies x) or x", 29},
		{"a[item] + item", 10}, {"item[a]", 0}, {"a[item](item)", 8}, {"[a[item], item]", 10}, {"item", 0},
		{"[function(x) x, x]", 16}, {"(function(x, y z) x)(x)", 21}, {"function(x) y", 12}, {"function(x y) x", 14},
		{"{k: l, l: 1}", 4}, {"{k: 1, l: l}", 10}, {"[{k: 1}, k]", 9}, {"{k: 1}[k]", 7}, {"{k: {l: 1}, m: l}", 15}, {"{k: 1, l: {m: k}, n: m}", 21},
	} {
		holdWrong(t, c.s, in, c.at, api.ErrScope)
		hold(t, c.s, "a", "f")
	}
	// Without a scope there are no names, but those that an expression brings.
	holdAnswer(t, "for x in [1] return x[item]", nil, of(api.ForExpr, "x", list(num("1")), of(api.FilterExpr, "", name("x"), name("item"))), 27, api.OK)
	holdWrong(t, "a", nil, 0, api.ErrScope)
}

// P12.1: every short row of tokens that may go on is gone on with each token.
func TestEveryRow(t *testing.T) {
	all := strings.Fields("a b item 1 \"s\" true not if then else for some every in return satisfies function and or between + - * / ** = != < <= > >= ( ) [ ] { } , : . ..")
	for _, c := range []struct {
		begin  string
		tokens []string
		most   int
	}{
		{"", all, 3},
		{"", strings.Fields("a b 1 + - * ** = and or"), 5},
		{"", strings.Fields("a - ( ) [ ] , .. ."), 6},
		{"a", strings.Fields("a in between and or < >= - + if"), 6},
		{"{", strings.Fields("a k : , } k: item ["), 6},
		{"function (", strings.Fields("x y a , ) ( function"), 6},
		{"if a", strings.Fields("a if then else or function"), 8},
		{"for x", strings.Fields("for x in return a some satisfies y"), 7},
		{"every x", strings.Fields("in a satisfies x b - (x)"), 6},
		{"a [", strings.Fields("item ] [ a . ( ) ,"), 5},
		{"[ a", strings.Fields("a , ] .. ) ( + 1"), 5},
		{"( a", strings.Fields("a , ] .. ) ( + 1"), 5},
	} {
		t.Run(c.begin, func(t *testing.T) {
			t.Parallel()
			var grow func(s string, left int)
			grow = func(s string, left int) {
				if !hold(t, s, "a", "a b", "b") || left == 0 {
					return
				}
				for _, token := range c.tokens {
					grow(s+" "+token, left-1)
				}
			}
			grow(c.begin, c.most)
		})
	}
}

// anyExpr is a right expression by chance.
func anyExpr(r *rand.Rand, deep int) api.Expr {
	return testaid.AnyExpr(r.Intn, deep, func(deep int) api.Expr { return anyExpr(r, deep) })
}

// P12.3: right expressions by chance, in the scope of their free names and of more.
func TestPrintedIsParsed(t *testing.T) {
	r := rand.New(rand.NewSource(1))
	t.Parallel()
	for i := range 8000 {
		x := anyExpr(r, 2+i%6)
		holdAgain(t, x, scopeOf(t, expr.Free(x)...))
		holdAgain(t, x, scopeOf(t, append(expr.Free(x), "a", "b", "a b c", "b a", "item a")...))
	}
}

// spaced are tokens as a text, with blanks by chance between.
func spaced(t *testing.T, r *rand.Rand, l []api.Lex) string {
	t.Helper()
	var s strings.Builder
	for _, x := range l {
		text, e := feellex.Text(x)
		if e != api.OK {
			t.Fatal(x, e)
		}
		s.WriteString(text + []string{" ", "  ", "\n", "\t\r\n "}[r.Intn(4)])
	}
	return s.String()
}

// P12.1: right texts by chance, and the same with some tokens lacking, doubled, or others.
func TestByChance(t *testing.T) {
	all := lex(t, "a b item x 1 2.5 \"s\" true not if then else for some every in return satisfies function and or between + - * ** = < >= ( ) [ ] { } , : . ..")
	t.Parallel()
	told := map[api.Errno]int{}
	for seed := range 4 {
		r := rand.New(rand.NewSource(int64(seed)))
		for range 4000 {
			x := anyExpr(r, 2+r.Intn(4))
			text, _ := feelprint.Print(x)
			if r.Intn(3) == 0 {
				text, _ = feelprint.Bare(x)
			}
			tokens := lex(t, text)
			tokens = tokens[:len(tokens)-1]
			for range r.Intn(4) {
				i := r.Intn(len(tokens) + 1)
				other := all[r.Intn(len(all)-1)]
				switch r.Intn(3) {
				case 0:
					tokens = slices.Insert(tokens, i, other)
				case 1:
					tokens = slices.Delete(tokens, max(i-1, 0), i)
				case 2:
					tokens = slices.Replace(tokens, max(i-1, 0), i, other)
				}
			}
			s := spaced(t, r, tokens)
			names := append(expr.Free(x), "a")
			if r.Intn(6) == 0 {
				names = names[1:]
			}
			hold(t, s, names...)
			_, _, e := feelparse.Parse(s, scopeOf(t, names...))
			told[e]++
		}
	}
	for _, e := range []api.Errno{api.OK, api.ErrSyntax, api.ErrScope, api.ErrTwice} {
		if told[e] < 10 {
			t.Errorf("%d told %d times", e, told[e])
		}
	}
}

// P12.3, P5: a pair of parentheses less is another expression, or none.
func TestParenthesesLess(t *testing.T) {
	t.Parallel()
	r := rand.New(rand.NewSource(3))
	pairs := 0
	for i := range 15000 {
		x := anyExpr(r, 2+i%5)
		in := scopeOf(t, append(expr.Free(x), "a", "b", "item")...)
		text, _ := feelprint.Print(x)
		tokens := lex(t, text)
		var open []int
		for i, token := range tokens {
			if token.Kind != api.Sign {
				continue
			}
			switch token.S {
			case "(", "[":
				open = append(open, i)
			case ")", "]":
				begin := open[len(open)-1]
				open = open[:len(open)-1]
				if token.S == ")" && tokens[begin].S == "(" {
					pairs++
					less := slices.Delete(slices.Clone(tokens), i, i+1)
					less = slices.Delete(less, begin, begin+1)
					s := spaced(t, r, less)
					if y, _, e := feelparse.Parse(s, in); e == api.OK && expr.Same(x, y) {
						t.Fatalf("%q, and %q without a pair", text, s)
					}
				}
			}
		}
	}
	if pairs < 8000 {
		t.Error(pairs)
	}
}
