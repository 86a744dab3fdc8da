package unary_test

import (
	"math/rand"
	"slices"
	"testing"

	"tipstave/api"
	"tipstave/expr"
	"tipstave/scope"
	"tipstave/testaid"
	"tipstave/unary"
)

// holdRight holds Check and Print against the chapter.
func holdRight(t *testing.T, x api.Tests) {
	t.Helper()
	if e := unary.Check(x); e != toldCheck(x) {
		t.Fatalf("Check(%s): %d, want %d", shown(x), e, toldCheck(x))
	}
	text, e := toldPrint(x)
	if s, f := unary.Print(x); s != text || f != e {
		t.Fatalf("Print(%s): %.200q %d, want %.200q %d", shown(x), s, f, text, e)
	}
}

func holdScoped(t *testing.T, x api.Tests, names *scope.Scope) {
	t.Helper()
	if e := unary.Scoped(x, names); e != toldScoped(x, names) {
		t.Fatalf("Scoped(%s): %d, want %d", shown(x), e, toldScoped(x, names))
	}
}

// shapes are all tests of some expressions.
func shapes(l []api.Expr) []api.Tests {
	return []api.Tests{{L: l}, {Not: true, L: l}, {Any: true, L: l}, {Any: true, Not: true, L: l}}
}

// P13.2: all shapes, with each row of right and of wrong expressions.
func TestEveryShape(t *testing.T) {
	parts := append(testaid.RightExprs(), testaid.WrongExprs()...)
	parts = append(parts, chain(200, num("1")), chain(199, num("1")), of(api.TestExpr, ">", chain(199, num("1"))), of(api.TestExpr, ">", of(api.TestExpr, ">", num("1"))))
	told := map[api.Errno]int{}
	testaid.EveryRow(parts, 2, func(l []api.Expr) {
		for _, x := range shapes(slices.Clone(l)) {
			holdRight(t, x)
			holdScoped(t, x, nil)
			told[unary.Check(x)]++
		}
	})
	for _, e := range []api.Errno{api.OK, api.ErrForm, api.ErrArg, api.ErrName, api.ErrTwice, api.ErrUtf, api.ErrDeep} {
		if told[e] == 0 {
			t.Errorf("%d was never told", e)
		}
	}
}

// P13.2: the sentences of the chapter, one by one.
func TestCheck(t *testing.T) {
	one, wrongName, wrongKind := num("1"), name("if"), of(20, "")
	for _, c := range []struct {
		x    api.Tests
		want api.Errno
		text string
	}{
		{api.Tests{}, api.ErrForm, ""},
		{api.Tests{L: []api.Expr{}}, api.ErrForm, ""},
		{api.Tests{Any: true}, api.OK, "-"},
		{api.Tests{Any: true, L: []api.Expr{}}, api.OK, "-"},
		{api.Tests{Any: true, Not: true}, api.ErrForm, ""},
		{api.Tests{Not: true}, api.ErrForm, ""},
		{api.Tests{Any: true, L: []api.Expr{one}}, api.ErrForm, ""},
		{api.Tests{Any: true, L: []api.Expr{wrongName}}, api.ErrForm, ""},
		{api.Tests{Any: true, Not: true, L: []api.Expr{wrongName}}, api.ErrForm, ""},
		{api.Tests{L: []api.Expr{one}}, api.OK, "1"},
		{api.Tests{Not: true, L: []api.Expr{one}}, api.OK, "not(1)"},
		{api.Tests{L: []api.Expr{one, name("net price")}}, api.OK, "1, net price"},
		{api.Tests{Not: true, L: []api.Expr{one, of(api.TestExpr, "<", num("2")), one}}, api.OK, "not(1, < 2, 1)"},
		{api.Tests{L: []api.Expr{of(api.TestExpr, "<", num("5")), of(api.SpanExpr, "[]", num("7"), num("9"))}}, api.OK, "< 5, [7..9]"},
		{api.Tests{L: []api.Expr{of(api.TestExpr, ">=", of(api.BinExpr, "or", one, one)), of(api.IfExpr, "", one, one, one), of(api.NegExpr, "", one)}}, api.OK, ">= (1 or 1), if 1 then 1 else 1, -1"},
		{api.Tests{L: []api.Expr{wrongName, wrongKind}}, api.ErrName, ""},
		{api.Tests{L: []api.Expr{wrongKind, wrongName}}, api.ErrArg, ""},
		{api.Tests{L: []api.Expr{one, wrongName}}, api.ErrName, ""},
		{api.Tests{Not: true, L: []api.Expr{one, one, wrongKind}}, api.ErrArg, ""},
		{api.Tests{L: []api.Expr{chain(200, wrongName), wrongKind}}, api.ErrDeep, ""},
		{api.Tests{L: []api.Expr{wrongKind, chain(200, one)}}, api.ErrArg, ""},
		{api.Tests{L: []api.Expr{list(of(api.TestExpr, "<", one))}}, api.ErrForm, ""},
		{api.Tests{L: []api.Expr{{}}}, api.ErrForm, ""},
	} {
		if e := unary.Check(c.x); e != c.want {
			t.Errorf("Check(%s): %d, want %d", shown(c.x), e, c.want)
		}
		if s, e := unary.Print(c.x); s != c.text || e != c.want {
			t.Errorf("Print(%s): %q %d, want %q %d", shown(c.x), s, e, c.text, c.want)
		}
	}
}

// P13.2: the first part whose names aren't in scope goes ahead.
func TestScoped(t *testing.T) {
	full := testaid.Numbered("n", api.MaxScope)
	in := scopeOf(t, full...)
	one, known, unknown := num("1"), name("n7"), name("a")
	tooMany := of(api.ForExpr, "x", one, name("x"))
	for _, c := range []struct {
		l    []api.Expr
		want api.Errno
	}{
		{nil, api.OK},
		{[]api.Expr{one, known}, api.OK},
		{[]api.Expr{unknown}, api.ErrScope},
		{[]api.Expr{one, known, of(api.TestExpr, "<", unknown)}, api.ErrScope},
		{[]api.Expr{one, of(api.TestExpr, "<=", known), known}, api.OK},
		{[]api.Expr{tooMany, unknown}, api.ErrLong},
		{[]api.Expr{unknown, tooMany}, api.ErrScope},
		{[]api.Expr{known, known, tooMany}, api.ErrLong},
		// What a part brings is in scope of it alone.
		{[]api.Expr{of(api.ForExpr, "n1", known, name("n1")), name("n1")}, api.OK},
	} {
		for _, x := range shapes(c.l) {
			if e := unary.Scoped(x, in); e != c.want {
				t.Errorf("Scoped(%s): %d, want %d", shown(x), e, c.want)
			}
		}
	}
	x := api.Tests{L: []api.Expr{of(api.ForExpr, "x", one, name("x")), name("x")}}
	for _, in := range []*scope.Scope{nil, scopeOf(t)} {
		if e := unary.Scoped(x, in); e != api.ErrScope {
			t.Error(e)
		}
	}
	if e := unary.Scoped(x, scopeOf(t, "x")); e != api.OK {
		t.Error(e)
	}
}

// P13.2: tests are the same if all is, right or wrong.
func TestSame(t *testing.T) {
	parts := append(testaid.RightExprs()[:6], testaid.WrongExprs()[:4]...)
	var all []api.Tests
	testaid.EveryRow(parts, 2, func(l []api.Expr) { all = append(all, shapes(slices.Clone(l))...) })
	for i, a := range all {
		for k, b := range all {
			if unary.Same(a, b) != (i == k) {
				t.Fatalf("Same(%s, %s): %v", shown(a), shown(b), i != k)
			}
		}
	}
	one := num("1")
	for _, c := range []struct {
		a, b []api.Expr
		want bool
	}{
		{nil, []api.Expr{}, true},
		{[]api.Expr{one, one}, []api.Expr{one, one, one}[:2], true},
		{[]api.Expr{one, one}, []api.Expr{one}, false},
		{[]api.Expr{one, name("a")}, []api.Expr{name("a"), one}, false},
		{[]api.Expr{one, one, name("a")}, []api.Expr{one, one, name("b")}, false},
		{[]api.Expr{list()}, []api.Expr{{Kind: api.ListExpr, Names: []string{}, L: []api.Expr{}}}, true},
		{[]api.Expr{of(api.TestExpr, "<", one)}, []api.Expr{of(api.TestExpr, "<=", one)}, false},
	} {
		for i, a := range shapes(c.a) {
			for k, b := range shapes(c.b) {
				if unary.Same(a, b) != (c.want && i == k) || unary.Same(b, a) != (c.want && i == k) {
					t.Errorf("Same(%s, %s)", shown(a), shown(b))
				}
			}
		}
	}
}

// anyTests are right tests by chance.
func anyTests(r *rand.Rand) api.Tests {
	var part func(deep int) api.Expr
	part = func(deep int) api.Expr { return testaid.AnyExpr(r.Intn, deep, part) }
	return testaid.AnyTests(r.Intn, part)
}

// free are the names that must be in scope of tests.
func free(x api.Tests) []string {
	var l []string
	for _, y := range x.L {
		l = append(l, expr.Free(y)...)
	}
	return l
}

// P13.2: tests by chance, right ones and with wrong parts.
func TestCheckByChance(t *testing.T) {
	r := rand.New(rand.NewSource(1))
	wrong := testaid.WrongExprs()
	told := map[api.Errno]int{}
	for range 4000 {
		x := anyTests(r)
		names := free(x)
		holdRight(t, x)
		if e := unary.Check(x); e != api.OK {
			t.Fatalf("Check(%s): %d", shown(x), e)
		}
		if e := unary.Scoped(x, scopeOf(t, names...)); e != api.OK {
			t.Fatalf("Scoped(%s): %d", shown(x), e)
		}
		if len(names) > 0 {
			i := r.Intn(len(names))
			in := scopeOf(t, slices.DeleteFunc(names, func(s string) bool { return s == names[i] })...)
			holdScoped(t, x, in)
			told[unary.Scoped(x, in)]++
		}
		if len(x.L) > 0 {
			x.L = slices.Insert(x.L, r.Intn(len(x.L)), wrong[r.Intn(len(wrong))])
			holdRight(t, x)
			told[unary.Check(x)]++
		}
	}
	if told[api.ErrScope] < 500 || told[api.ErrForm] < 100 || told[api.ErrArg] < 50 {
		t.Error(told)
	}
}

// P13.2, rule 4: what is handed in stays as it was, and what lies behind its lists isn't read.
func TestHandedIn(t *testing.T) {
	for _, l := range [][]api.Expr{testaid.RightExprs(), testaid.WrongExprs()} {
		x := api.Tests{Not: true, L: l}
		was := whole(x)
		unary.Check(x)
		unary.Print(x)
		unary.Scoped(x, nil)
		unary.Same(x, x)
		if whole(x) != was {
			t.Errorf("%s, and was %s", whole(x), was)
		}
	}
	some := []api.Expr{num("1"), name("if")}
	holdRight(t, api.Tests{L: some[:1]})
	if s, e := unary.Print(api.Tests{Any: true, L: some[:0]}); s != "-" || e != api.OK {
		t.Error(s, e)
	}
}

// P1: as deep and as wide as can be: all calls end.
func TestVeryDeepAndWide(t *testing.T) {
	deep := chain(1<<19, num("1"))
	x := api.Tests{L: []api.Expr{num("1"), deep}}
	if s, e := unary.Print(x); s != "" || e != api.ErrDeep || unary.Check(x) != api.ErrDeep || !unary.Same(x, x) {
		t.Error(len(s), e)
	}
	unary.Scoped(x, nil)
	wide := api.Tests{Not: true}
	for range 1 << 16 {
		wide.L = append(wide.L, of(api.TestExpr, ">", num("12")))
	}
	s, e := unary.Print(wide)
	if e != api.OK || len(s) != len("not()")+len("> 12, ")<<16-2 || s[:16] != "not(> 12, > 12, " || unary.Check(wide) != api.OK || unary.Scoped(wide, nil) != api.OK {
		t.Error(len(s), e)
	}
	wide.L[1<<16-1] = name("q")
	if e := unary.Scoped(wide, nil); e != api.ErrScope {
		t.Error(e)
	}
	wide.L[1<<16-1].S = "or"
	if s, e := unary.Print(wide); s != "" || e != api.ErrName {
		t.Error(len(s), e)
	}
}
