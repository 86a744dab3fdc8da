package feelparse_test

import (
	"slices"
	"strings"
	"testing"

	"tipstave/api"
	"tipstave/expr"
	"tipstave/feelparse"
	"tipstave/feelprint"
	"tipstave/scope"
	"tipstave/testaid"
)

// P12.1: numbers of as many digits as may be, and more.
func TestDigits(t *testing.T) {
	nines := func(n int) string { return times(n, "9") }
	for s, want := range map[string]string{
		nines(1000):                   nines(1000),
		"." + nines(1000):             "0." + nines(1000),
		nines(500) + "." + nines(500): nines(500) + "." + nines(500),
		times(999, "0") + "7":         "7",
		"1." + times(999, "0"):        "1",
	} {
		holdAnswer(t, s, nil, num(want), len(s), api.OK)
		if e := expr.Check(num(want)); e != api.OK {
			t.Errorf("%.20q: %d", want, e)
		}
	}
	for _, s := range []string{nines(1001), times(1001, "0"), "." + nines(1001), nines(500) + "." + nines(501), "1." + times(1000, "0"), nines(1 << 20)} {
		holdWrong(t, s, nil, 0, api.ErrLong)
		holdWrong(t, "[1, -"+s+", )", nil, 5, api.ErrLong)
		holdWrong(t, "1 "+s, nil, 2, api.ErrSyntax)
		holdWrong(t, "q "+s, nil, 0, api.ErrScope)
	}
}

// P12.1: nesting, by each token that nests, as much as may be and one more.
func TestNesting(t *testing.T) {
	in := scopeOf(t, "a")
	for _, c := range []struct {
		s    string
		most int // so many tokens nest in it, one in the other
		at   int // where the last of them is
	}{
		{"(a)", 1, 0}, {"[a]", 1, 0}, {"[]", 1, 0}, {"{}", 1, 0}, {"{k: a}", 1, 0}, {"[a..a]", 1, 0}, {"(a..a)", 1, 0}, {"a[a]", 1, 1}, {"a(a)", 1, 1}, {"a()", 1, 1}, {"a.b(a)", 1, 3},
		{"if a then a else a", 1, 0}, {"for x in a return a", 1, 0}, {"some x in a satisfies a", 1, 0}, {"every x in a satisfies a", 1, 0},
		{"function() a", 2, 8}, {"function(x) a", 2, 8}, {"function() (a)", 2, 8}, {"function() [if a then a else a]", 3, 12}, {"if (a) then [a] else {k: a}", 2, 3}, {"[(a), (a), [a]]", 2, 1}, {"(a)(a)[a]", 1, 0}, {"[for x in (a) return (x)]", 3, 10}, {"for x in [(a)] return [(a)]", 3, 10},
	} {
		for around := 200 - c.most - 1; around <= 201; around++ {
			s := times(around, "(") + c.s + times(around, ")")
			want, at, e := testaid.ToldParse(rules, lex(t, s), []string{"a"})
			holdAnswer(t, s, in, want, at, e)
			switch {
			case around == 200-c.most+1 && (at != around+c.at || e != api.ErrDeep), around <= 200-c.most && e != api.OK, around > 200-c.most && e != api.ErrDeep:
				t.Errorf("%d around %q: %d %d", around, c.s, at, e)
			}
		}
	}
	for _, begin := range []string{"(", "[", "{k:", "-[", "a(", "a[", "[a,", "1+(", "if ", "for x in ", "every x in a satisfies "} {
		s := times(201, begin)
		if _, at, e := feelparse.Parse(s, in); e != api.ErrDeep || at < 200*len(begin) || at >= len(s) {
			t.Errorf("%.20q: %d %d", s, at, e)
		}
	}
}

// P12.1: of a function both tokens nest, the second one up to its own end.
func TestNestingOfFunctions(t *testing.T) {
	in := scopeOf(t, "a")
	s := times(199, "function() ") + "a"
	if _, at, e := feelparse.Parse(s, in); e != api.OK || at != len(s) {
		t.Error(at, e)
	}
	holdWrong(t, "function() "+s, in, len("function() ")*199+len("function"), api.ErrDeep)
	holdWrong(t, times(199, "function() ")+"[[a]]", in, len("function() ")*199+1, api.ErrDeep)
}

// P12.1: a token that may not stand there isn't one that nests.
func TestNestingWrong(t *testing.T) {
	in := scopeOf(t, "a")
	for _, s := range []string{"1+if", "-function", "a for", "a.(", "a.[", "{", "a in some"} {
		hold(t, times(199, "(")+s, "a")
	}
	holdWrong(t, times(200, "(")+"1+if", in, 202, api.ErrSyntax)
	holdWrong(t, times(200, "(")+"a {", in, 202, api.ErrSyntax)
	holdWrong(t, times(200, "(")+"a.(", in, 202, api.ErrSyntax)
	holdWrong(t, times(200, "(")+"a(", in, 201, api.ErrDeep)
	holdWrong(t, times(199, "(")+"function [", in, 208, api.ErrSyntax)
	holdWrong(t, times(199, "(")+"function (", in, 208, api.ErrDeep)
	holdWrong(t, times(200, "(")+"function (", in, 200, api.ErrDeep)
	s := "[" + times(1000, "(((a))), ") + times(198, "(") + "[a]" + times(198, ")") + "]"
	if _, _, e := feelparse.Parse(s, in); e != api.OK {
		t.Error(e)
	}
}

// deeper tells the texts of one of each kind of expression but a test, each of its parts in turn so deep.
func deeper(part int, tell func(s string)) {
	for _, x := range testaid.RightExprs()[:api.TestExpr] {
		for i := range x.L {
			x.L = slices.Clone(x.L)
			was := x.L[i]
			x.L[i] = name("deep")
			s, _ := feelprint.Print(x)
			x.L[i] = was
			tell(strings.Replace(s, "deep", "("+times(part-1, "-")+"1)", 1))
		}
	}
}

// P12.1: as deep as may be, by each part of each kind, and one deeper: that is wrong at the first token of it.
func TestDeep(t *testing.T) {
	in := scopeOf(t, "a", "item")
	deeper(199, func(s string) {
		for _, s := range []string{s, "(" + s + ")", "((" + s + "))"} {
			if _, at, e := feelparse.Parse(s, in); e != api.OK || at != len(s) {
				t.Errorf("%.20q: %d %d", s, at, e)
			}
			holdWrong(t, s+")", in, len(s), api.ErrSyntax)
		}
		holdWrong(t, "["+s+"]", in, 0, api.ErrDeep)
	})
	for _, begin := range []string{"", "((", "[1, ", "if 1 then 2 else ", "for x in "} {
		deeper(200, func(s string) {
			for _, end := range []string{"", " )", " .. q", " else"} {
				holdWrong(t, begin+s+end, in, len(begin), api.ErrDeep)
			}
		})
	}
}

// P12.1: parts are asked ahead of the whole, and what is ahead goes ahead.
func TestDeepOrder(t *testing.T) {
	in := scopeOf(t, "a")
	minus := func(n int) string { return times(n, "-") + "a" }
	for _, c := range []struct {
		s  string
		at int
		e  api.Errno
	}{
		{minus(200), 0, api.ErrDeep},
		{minus(205), 5, api.ErrDeep},
		{times(300, "- ") + "a", 200, api.ErrDeep},
		{"((" + minus(200) + "))", 2, api.ErrDeep},
		{"a" + times(200, "+a"), 0, api.ErrDeep},
		{"a" + times(5000, "+a"), 0, api.ErrDeep},
		{"((a))" + times(200, "+a"), 0, api.ErrDeep},
		{"1 + ((a))" + times(200, "*a"), 4, api.ErrDeep},
		{"a" + times(199, "+a") + "*a*a", 0, api.OK},
		{"a" + times(199, "+a") + "+q", 400, api.ErrScope},
		{"a" + times(199, "+a") + "+)", 400, api.ErrSyntax},
		{"a" + times(200, "+a") + " q", 0, api.ErrDeep},
		{"a" + times(200, ".b c"), 0, api.ErrDeep},
		{"(a)" + times(200, "[a]"), 0, api.ErrDeep},
		{"a" + times(200, "()"), 0, api.ErrDeep},
		{"- (a)" + times(200, "()"), 2, api.ErrDeep},
		{"a" + times(199, "()") + "(q", 400, api.ErrScope},
		{"a" + times(199, "()") + "(a", 401, api.ErrSyntax},
		{"a" + times(199, "()") + "(a)", 0, api.ErrDeep},
		{times(199, "[") + "[" + times(199, "]") + "]", 0, api.OK},
		{times(200, "[") + "a" + times(200, "]"), 0, api.ErrDeep},
		{times(200, "[") + "a" + times(199, "]"), 400, api.ErrSyntax},
		{times(200, "[") + "a" + times(199, "]") + ",", 401, api.ErrSyntax},
		{times(200, "[") + "a" + times(199, "]") + ",q", 401, api.ErrScope},
		{"[" + minus(199) + "]", 0, api.ErrDeep},
		{"{k: " + minus(199) + "}", 0, api.ErrDeep},
		{"{k: " + minus(199) + ", k: 1}", 206, api.ErrTwice},
		{"[a, " + minus(200) + ", " + minus(200) + "]", 4, api.ErrDeep},
		{"a in < " + minus(197), 0, api.OK},
		{"a in < " + minus(198), 0, api.ErrDeep},
		{"a in < " + minus(199), 5, api.ErrDeep},
		{"a in < " + minus(200), 7, api.ErrDeep},
		{"if a then a else " + minus(199), 0, api.ErrDeep},
		{"(" + minus(199) + ")", 0, api.OK},
		{"(" + minus(199) + ").b", 0, api.ErrDeep},
		{"(" + minus(199) + "..a)", 0, api.ErrDeep},
		{"(" + minus(199) + "..q)", 203, api.ErrScope},
	} {
		want, at, e := testaid.ToldParse(rules, lex(t, c.s), []string{"a"})
		if e != c.e || e != api.OK && at != c.at {
			t.Errorf("%.20q, %d bytes: the chapter %d %d, not %d %d", c.s, len(c.s), at, e, c.at, c.e)
		}
		holdAnswer(t, c.s, in, want, at, e)
	}
}

// P12.3: as deep as may be, printed and parsed again.
func TestDeepAgain(t *testing.T) {
	in := scopeOf(t, "a", "item")
	for _, x := range testaid.RightExprs()[:api.TestExpr] {
		for i := range x.L {
			y := name("a")
			for range api.MaxDepth - 1 {
				around := x
				around.L = slices.Clone(x.L)
				around.L[i] = y
				y = around
			}
			text, e := feelprint.Print(y)
			if e != api.OK {
				t.Fatal(e)
			}
			holdAnswer(t, text, in, y, len(text), api.OK)
			holdAgain(t, y, in)
		}
	}
	// What needs parentheses and nests by itself.
	x := name("a")
	for range 99 {
		x = of(api.NegExpr, "", of(api.IfExpr, "", x, name("a"), name("a")))
	}
	holdAgain(t, x, in)
}

// P12.1: where a scope would have too many names that is told at the place of the expression that brings them.
func TestTooManyNames(t *testing.T) {
	full, most := testaid.Numbered("n", api.MaxScope), testaid.Numbered("n", api.MaxScope-1)
	for _, c := range []struct {
		names []string
		s     string
		at    int
		e     api.Errno
	}{
		{full, "for x in n0 return n0", 0, api.ErrLong},
		{full, "for n1 in n0 return n1", 0, api.OK},
		{full, "[1, some x in n0 satisfies n0]", 4, api.ErrLong},
		{full, "if n0 then every x in n0 satisfies n0 else n0", 11, api.ErrLong},
		{full, "for x in q return n0", 9, api.ErrScope},
		{full, "for x in n0 n0", 12, api.ErrSyntax},
		{full, "for x in n0 return q", 0, api.ErrLong},
		{full, "n0[1]", 0, api.ErrLong},
		{full, "-n0[1]", 1, api.ErrLong},
		{full, "1 * ((n0))[1]", 4, api.ErrLong},
		{full, "n0.a()[1]", 0, api.ErrLong},
		{full, "function(x) 1", 0, api.ErrLong},
		{full, "function() 1", 0, api.OK},
		{full, "function(n1, n2) n1", 0, api.OK},
		{full, "(function(n1, x) n1)", 1, api.ErrLong},
		{full, "function(x, x) 1", 12, api.ErrTwice},
		{full, "{}", 0, api.OK},
		{full, "{x: 1}", 0, api.OK},
		{full, "{n1: 1, x: n1}", 0, api.OK},
		{full, "{x: 1, n1: 1}", 0, api.ErrLong},
		{full, "[{x: 1, x: 1}]", 8, api.ErrTwice},
		{full, "{k: {x: 1, y: 1}}", 4, api.ErrLong},
		{most, "for x in n0 return x", 0, api.OK},
		{most, "for x in n0 return for y in x return x", 19, api.ErrLong},
		{most, "for x in n0 return for x in x return x", 0, api.OK},
		{most, "[for x in n0 return x, n0[item], function(y) y, {k: 1, l: k}, {k: 1, l: k}[item]]", 0, api.OK},
		{most, "for x in n0 return x[item]", 19, api.ErrLong},
		{most, "n0[n0[item]]", 0, api.OK},
		{most, "n0[for x in n0 return 1]", 3, api.ErrLong},
		{most, "function(x, y) 1", 0, api.ErrLong},
		{most, "function(x) function() x", 0, api.OK},
		{most, "{x: 1, y: x}", 0, api.OK},
		{most, "{x: 1, y: x, z: 1}", 0, api.ErrLong},
		{most, "{x: 1, y: n0[1]}", 10, api.ErrLong},
	} {
		at := c.at
		if c.e == api.OK {
			at = len(c.s)
		}
		x, n, e := feelparse.Parse(c.s, scopeOf(t, c.names...))
		if n != at || e != c.e || e != api.OK && testaid.Expr(x) != testaid.Expr(api.Expr{}) {
			t.Errorf("%q: %d %d", c.s, n, e)
		}
		if want, n, e := testaid.ToldParse(rules, lex(t, c.s), c.names); n != at || e != c.e || !expr.Same(x, want) {
			t.Errorf("%q: the chapter %d %d", c.s, n, e)
		}
	}
}

// P12.1: a great many names that one expression brings.
func TestManyNames(t *testing.T) {
	keys := func(n int) string { return "[{" + strings.Join(testaid.Numbered("k", n), ": 1, ") + ": 1}]" }
	params := func(n int) string { return "[function(" + strings.Join(testaid.Numbered("k", n), ", ") + ") k0]" }
	for _, c := range []struct {
		s string
		e api.Errno
	}{{keys(4096), api.OK}, {keys(4097), api.OK}, {keys(4098), api.ErrLong}, {keys(100000), api.ErrLong}, {params(4096), api.OK}, {params(4097), api.ErrLong}, {params(300000), api.ErrLong}} {
		x, at, e := feelparse.Parse(c.s, nil)
		if e != c.e || e != api.OK && at != 1 {
			t.Errorf("%.20q, %d bytes: %d %d", c.s, len(c.s), at, e)
		}
		if e == api.OK && expr.Scoped(x, nil) != api.OK {
			t.Errorf("%.20q, %d bytes: Scoped %d", c.s, len(c.s), expr.Scoped(x, nil))
		}
	}
	var none *scope.Scope
	holdWrong(t, "{k: 1, "+times(5000, "k: 1, "), none, 7, api.ErrTwice)
}

// P1, P12.1: very long texts.
func TestVeryLong(t *testing.T) {
	const n = 100000
	in := scopeOf(t, "a")
	for _, c := range []struct {
		s  string
		at int
		e  api.Errno
	}{
		{times(n, "-") + "a", n - 200, api.ErrDeep},
		{times(n, "-") + "q", n, api.ErrScope},
		{times(n, "-"), n, api.ErrSyntax},
		{times(n, "("), 200, api.ErrDeep},
		{times(n, "["), 200, api.ErrDeep},
		{times(n, "if "), 600, api.ErrDeep},
		{times(n, "a+") + "a", 0, api.ErrDeep},
		{times(n, "a**") + "a", 0, api.ErrDeep},
		{times(n, "a or ") + "a", 0, api.ErrDeep},
		{"a" + times(n, ".b"), 0, api.ErrDeep},
		{"a" + times(n, "[1]"), 0, api.ErrDeep},
		{"a" + times(n, "()"), 0, api.ErrDeep},
		{times(n, "a "), 2, api.ErrSyntax},
		{times(n, "q "), 0, api.ErrScope},
		{"[" + times(n, "a,"), 1 + 2*n, api.ErrSyntax},
		{"a" + times(n, ")"), 1, api.ErrSyntax},
	} {
		holdWrong(t, c.s, in, c.at, c.e)
	}
	for _, s := range []string{"[" + times(n, "a,") + "a]", "a(" + times(n, "a[1],") + "a)", "a." + times(n, "b\n"), `"` + times(n, `\u00e4`) + `"`, times(n, " ") + "a" + times(n, "\t"), "[" + times(n, "(a), ") + "{}]"} {
		x, at, e := feelparse.Parse(s, in)
		if e != api.OK || at != len(s) {
			t.Errorf("%.20q: %d %d", s, at, e)
		}
		text, _ := feelprint.Print(x)
		if y, _, e := feelparse.Parse(text, in); e != api.OK || !expr.Same(x, y) {
			t.Errorf("%.20q: %d", text, e)
		}
	}
}
