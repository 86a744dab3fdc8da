package feelprint_test

import (
	"math"
	"math/rand"
	"slices"
	"strings"
	"sync"
	"testing"

	"tipstave/api"
	"tipstave/expr"
	"tipstave/feellex"
	"tipstave/feelprint"
	"tipstave/testaid"
)

var (
	of, name, num, list   = testaid.Of, testaid.Name, testaid.Num, testaid.List
	function, maps, chain = testaid.Function, testaid.Map, testaid.Chain
	right, shown          = testaid.RightExprs, testaid.Shown
)

// holdTexts holds both texts of a right expression against the chapter.
func holdTexts(t *testing.T, x api.Expr) {
	t.Helper()
	if s, e := feelprint.Print(x); s != told(x, false) || e != api.OK {
		t.Fatalf("Print(%s): %.200q %d, want %.200q", shown(x), s, e, told(x, false))
	}
	if s, e := feelprint.Bare(x); s != told(x, true) || e != api.OK {
		t.Fatalf("Bare(%s): %.200q %d, want %.200q", shown(x), s, e, told(x, true))
	}
}

// holdWrong holds what is told of a wrong expression.
func holdWrong(t *testing.T, x api.Expr, want api.Errno) {
	t.Helper()
	if s, e := feelprint.Print(x); s != "" || e != want {
		t.Fatalf("Print(%s): %.200q %d, want %d", shown(x), s, e, want)
	}
	if s, e := feelprint.Bare(x); s != "" || e != want {
		t.Fatalf("Bare(%s): %.200q %d, want %d", shown(x), s, e, want)
	}
}

// samples are right expressions of each kind but a test, with each sign and each pair of brackets.
func samples() []api.Expr {
	var l []api.Expr
	for _, x := range right() {
		all := []string{x.S}
		switch x.Kind {
		case api.TestExpr:
			continue
		case api.ConstExpr:
			all = []string{"true", "false", "null"}
		case api.BinExpr:
			all = testaid.BinSigns()
		case api.SpanExpr:
			all = testaid.SpanSigns()
		}
		for _, s := range all {
			x.S = s
			l = append(l, x)
		}
	}
	return append(l, list(), maps(nil), function(name("a")), of(api.CallExpr, "", name("f")))
}

// withParts tells an expression with each row of samples as its parts.
func withParts(x api.Expr, tell func(api.Expr)) {
	testaid.EveryRow(samples(), len(x.L), func(l []api.Expr) {
		if len(l) == len(x.L) {
			x.L = slices.Clone(l)
			tell(x)
		}
	})
}

// P11.1: of every kind, and every sign, every row of parts.
func TestEveryPart(t *testing.T) {
	for _, x := range samples() {
		withParts(x, func(x api.Expr) { holdTexts(t, x) })
	}
}

// P11.1: tests, alone and behind in, with every part.
func TestTests(t *testing.T) {
	for _, sign := range testaid.TestSigns() {
		for _, x := range samples() {
			test := of(api.TestExpr, sign, x)
			holdTexts(t, test)
			holdTexts(t, of(api.InExpr, "", x, test))
			holdTexts(t, list(of(api.InExpr, "", name("a"), test)))
		}
	}
}

// P11.1: two expressions deep: an expression in each place of another one that itself stands in each place of a third one.
func TestPartsOfParts(t *testing.T) {
	placed := func(x, part api.Expr, i int) api.Expr {
		x.L = slices.Clone(x.L)
		x.L[i] = part
		return x
	}
	for _, inner := range samples() {
		for _, middle := range samples() {
			for i := range middle.L {
				for _, outer := range samples() {
					for k := range outer.L {
						holdTexts(t, placed(outer, placed(middle, inner, i), k))
					}
				}
			}
		}
	}
}

// P11.1: expressions by chance.
func TestByChance(t *testing.T) {
	r := rand.New(rand.NewSource(1))
	var any func(deep int) api.Expr
	any = func(deep int) api.Expr { return testaid.AnyExpr(r.Intn, deep, any) }
	for range 10000 {
		x := any(7)
		holdTexts(t, x)
		holdParentheses(t, x)
	}
}

// P11.1, P11.2: the chapter's examples, and one for each of its sentences.
func TestExamples(t *testing.T) {
	one, two, a, b, c := num("1"), num("2"), name("a"), name("b"), name("c")
	bin := func(x api.Expr, s string, y api.Expr) api.Expr { return of(api.BinExpr, s, x, y) }
	neg := func(x api.Expr) api.Expr { return of(api.NegExpr, "", x) }
	choice := of(api.IfExpr, "", a, b, c)
	for _, c := range []struct {
		x          api.Expr
		text, bare string
	}{
		{bin(bin(one, "+", two), "*", num("3")), "(1 + 2) * 3", "((1) + (2)) * (3)"},
		{bin(one, "+", bin(two, "*", num("3"))), "1 + 2 * 3", "(1) + ((2) * (3))"},
		{neg(neg(a)), "--a", "-(-(a))"},
		{of(api.PathExpr, "c", bin(a, "+", b)), "(a + b).c", "((a) + (b)).c"},
		{bin(one, "+", a), "1 + a", "(1) + (a)"},
		{bin(a, "-", bin(b, "-", c)), "a - (b - c)", "(a) - ((b) - (c))"},
		{bin(bin(a, "-", b), "-", c), "a - b - c", "((a) - (b)) - (c)"},
		{bin(bin(a, "=", b), "=", c), "(a = b) = c", "((a) = (b)) = (c)"},
		{bin(bin(a, "**", b), "**", c), "a ** b ** c", "((a) ** (b)) ** (c)"},
		{bin(a, "**", bin(b, "**", c)), "a ** (b ** c)", "(a) ** ((b) ** (c))"},
		{bin(neg(a), "**", neg(b)), "-a ** -b", "(-(a)) ** (-(b))"},
		{neg(bin(a, "**", b)), "-(a ** b)", "-((a) ** (b))"},
		{of(api.PathExpr, "c", neg(a)), "(-a).c", "(-(a)).c"},
		{bin(a, "or", bin(b, "and", c)), "a or b and c", "(a) or ((b) and (c))"},
		{bin(a, "or", bin(b, "or", c)), "a or (b or c)", "(a) or ((b) or (c))"},
		{bin(choice, "or", choice), "(if a then b else c) or (if a then b else c)", "(if (a) then (b) else (c)) or (if (a) then (b) else (c))"},
		{of(api.IfExpr, "", choice, choice, choice), "if if a then b else c then if a then b else c else if a then b else c", "if (if (a) then (b) else (c)) then (if (a) then (b) else (c)) else (if (a) then (b) else (c))"},
		{of(api.BetweenExpr, "", a, bin(a, "and", b), c), "a between (a and b) and c", "(a) between ((a) and (b)) and (c)"},
		{of(api.InExpr, "", a, bin(b, "<", c)), "a in (b < c)", "(a) in ((b) < (c))"},
		{of(api.InExpr, "", a, of(api.TestExpr, "<", b)), "a in < b", "(a) in < (b)"},
		{of(api.TestExpr, ">=", bin(a, "-", b)), ">= a - b", ">= ((a) - (b))"},
		{of(api.TestExpr, ">=", bin(a, "or", b)), ">= (a or b)", ">= ((a) or (b))"},
		{of(api.CallExpr, "", function(a, "a", "b c"), choice), "(function(a, b c) a)(if a then b else c)", "(function(a, b c) (a))((if (a) then (b) else (c)))"},
		{of(api.CallExpr, "", a), "a()", "(a)()"},
		{of(api.FilterExpr, "", list(one), choice), "[1][if a then b else c]", "([(1)])[(if (a) then (b) else (c))]"},
		{maps([]string{"k", "net price"}, choice, one), "{k: if a then b else c, net price: 1}", "{k: (if (a) then (b) else (c)), net price: (1)}"},
		{of(api.SpanExpr, "[)", num("1.5"), choice), "[1.5..if a then b else c)", "[(1.5)..(if (a) then (b) else (c)))"},
		{of(api.PathExpr, "x", one), "1.x", "(1).x"},
		{of(api.StrExpr, "\u00e4\"\\\n\r\t/"), `"ä\"\\\n\r\t/"`, `"ä\"\\\n\r\t/"`},
		{of(api.StrExpr, ""), `""`, `""`},
		{list(), "[]", "[]"},
		{maps(nil), "{}", "{}"},
		{function(a), "function() a", "function() (a)"},
		{of(api.ConstExpr, "null"), "null", "null"},
	} {
		if s, e := feelprint.Print(c.x); s != c.text || e != api.OK {
			t.Errorf("Print(%s): %q %d, want %q", shown(c.x), s, e, c.text)
		}
		if s, e := feelprint.Bare(c.x); s != c.bare || e != api.OK {
			t.Errorf("Bare(%s): %q %d, want %q", shown(c.x), s, e, c.bare)
		}
		holdParentheses(t, c.x)
	}
}

// P11.1: levels of every kind, with every sign, whatever else is wrong.
func TestLevel(t *testing.T) {
	texts := append(testaid.BinSigns(), "", "?", "or ", "Or", "==", "***", "<>", "\xff", "a", "()", "true")
	kinds := []int{math.MinInt, -256, 1 << 32, 1<<32 + 5, math.MaxInt}
	for kind := -5; kind <= 300; kind++ {
		kinds = append(kinds, kind)
	}
	for _, kind := range kinds {
		for _, s := range texts {
			for _, x := range []api.Expr{of(kind, s), of(kind, s, num("1")), {Kind: kind, S: s, Names: []string{"if"}, L: samples()}} {
				if n := feelprint.Level(x); n != toldLevel(x) {
					t.Errorf("Level(%s): %d, want %d", shown(x), n, toldLevel(x))
				}
			}
		}
	}
}

// P11.1: of wrong expressions Check's error is told, wherever in them the fault is.
func TestWrong(t *testing.T) {
	for _, x := range testaid.WrongExprs() {
		want := expr.Check(x)
		if want == api.OK {
			t.Errorf("Check(%s): OK", shown(x))
		}
		holdWrong(t, x, want)
		for _, y := range right() {
			for i := range y.L {
				y.L = slices.Clone(y.L)
				y.L[i] = x
				if e := expr.Check(y); e != api.OK { // a test may stand somewhere
					holdWrong(t, y, e)
					holdWrong(t, of(api.NegExpr, "", y), expr.Check(of(api.NegExpr, "", y)))
				}
			}
		}
	}
	for kind := -2; kind <= 22; kind++ {
		for _, s := range []string{"", "a", "1", "+", "[", "[]", "if", "\xff"} {
			for n := range 4 {
				x := of(kind, s, slices.Repeat([]api.Expr{num("1")}, n)...)
				if e := expr.Check(x); e != api.OK {
					holdWrong(t, x, e)
				} else {
					holdTexts(t, x)
				}
			}
		}
	}
}

// P11.1: as deep as may be, and one deeper, by each part of each kind.
func TestDeep(t *testing.T) {
	for _, x := range right() {
		for i := range x.L {
			x.L = slices.Clone(x.L)
			was := x.L[i]
			x.L[i] = chain(api.MaxDepth-2, num("1"))
			holdTexts(t, x)
			x.L[i] = chain(api.MaxDepth-1, num("1"))
			holdWrong(t, x, api.ErrDeep)
			x.L[i] = was
		}
	}
	sum, loop := num("1"), num("1")
	for n := 2; n <= api.MaxDepth; n++ {
		sum, loop = of(api.BinExpr, "-", num("1"), sum), of(api.ForExpr, "x", loop, num("1"))
	}
	holdTexts(t, sum)
	holdTexts(t, loop)
	holdWrong(t, list(sum), api.ErrDeep)
	deepWrong := of(20, "", chain(api.MaxDepth, of(20, "")))
	holdWrong(t, deepWrong, api.ErrDeep)
	holdWrong(t, chain(1000000, num("1")), api.ErrDeep)
}

// P1: what goes into itself is deeper than may be.
func TestEndless(t *testing.T) {
	l := make([]api.Expr, 2)
	for i := range l {
		l[i] = list(l...)
		l[i].L = l
	}
	if _, e := feelprint.Print(l[0]); e != api.ErrDeep {
		t.Error(e)
	}
	if _, e := feelprint.Bare(l[1]); e != api.ErrDeep || feelprint.Level(l[0]) != 8 {
		t.Error(e)
	}
}

// P11.1: very wide expressions, and very long texts.
func TestVeryWide(t *testing.T) {
	const n = 200000
	names := testaid.Numbered("n", n)
	parts := slices.Repeat([]api.Expr{of(api.IfExpr, "", num("1"), name("a"), num("2"))}, n)
	long := strings.Repeat("\u00e4\"\n", n)
	for _, x := range []api.Expr{list(parts...), maps(names, parts...), function(num("1"), names...), of(api.CallExpr, "", parts...), of(api.StrExpr, long), name("a" + strings.Repeat(" b", n))} {
		holdTexts(t, x)
	}
	for _, s := range []string{strings.Repeat("9", api.MaxDigits), "0." + strings.Repeat("9", api.MaxDigits)} {
		holdTexts(t, list(num(s)))
	}
}

// parentheses are how many ( a text has, and its tokens but ( and ).
func parentheses(t *testing.T, s string) (int, string) {
	t.Helper()
	tokens, _, e := feellex.Lex(s)
	if e != api.OK {
		t.Fatalf("Lex(%.200q): %d", s, e)
	}
	count := 0
	var left strings.Builder
	for _, x := range tokens {
		text, _ := feellex.Text(x)
		switch {
		case x.Kind == api.Sign && text == "(":
			count++
		case x.Kind != api.Sign || text != ")":
			left.WriteString(text + " ")
		}
	}
	return count, left.String()
}

// asked are how many ( an expression's text has, beside those that stand around parts; and how many parts, at any depth, are no tests, or of a level that is lower than where they stand asks.
func asked(x api.Expr) (own, parts, lower int) {
	switch {
	case x.Kind == api.CallExpr, x.Kind == api.FuncExpr, x.Kind == api.SpanExpr && x.S[0] == '(':
		own = 1
	}
	for i, part := range x.L {
		if part.Kind != api.TestExpr {
			parts++
			if toldLevel(part) < toldLeast(x, i) {
				lower++
			}
		}
		o, p, l := asked(part)
		own, parts, lower = own+o, parts+p, lower+l
	}
	return own, parts, lower
}

// toldLeast is the number behind a part.
func toldLeast(x api.Expr, i int) int {
	switch x.Kind {
	case api.NegExpr:
		return 7
	case api.BinExpr:
		return signs[x.S][1+i]
	case api.BetweenExpr, api.InExpr, api.TestExpr:
		return 4
	case api.PathExpr, api.FilterExpr, api.CallExpr:
		if i == 0 {
			return 8
		}
	}
	return 0
}

// P11.2: both texts differ by nothing but parentheses; the one has those that a lower level asks for, the other one has them around each part that isn't a test.
func holdParentheses(t *testing.T, x api.Expr) {
	t.Helper()
	text, _ := feelprint.Print(x)
	bare, _ := feelprint.Bare(x)
	fewer, left := parentheses(t, text)
	all, same := parentheses(t, bare)
	own, parts, lower := asked(x)
	if left != same || fewer != own+lower || all != own+parts {
		t.Fatalf("%s: %.200q, %.200q: %d and %d parentheses, want %d and %d", shown(x), text, bare, fewer, all, own+lower, own+parts)
	}
}

// P11.2: parentheses of every kind with every row of parts.
func TestParentheses(t *testing.T) {
	for _, x := range samples() {
		if len(x.L) < 3 {
			withParts(x, func(x api.Expr) { holdParentheses(t, x) })
		}
	}
	for _, x := range samples() {
		for i := range 3 {
			parts := []api.Expr{name("a"), name("b"), name("c")}
			parts[i] = x
			holdParentheses(t, of(api.BetweenExpr, "", parts...))
			holdParentheses(t, of(api.IfExpr, "", parts...))
			holdParentheses(t, of(api.CallExpr, "", parts...))
		}
		holdParentheses(t, of(api.InExpr, "", x, of(api.TestExpr, "<", x)))
		holdParentheses(t, of(api.TestExpr, ">", x))
	}
}

// What is handed in isn't changed, nor is what lies behind a list's length read.
func TestLists(t *testing.T) {
	names := []string{"a", "b", "if"}
	parts := []api.Expr{num("1"), of(api.NegExpr, "", name("a")), of(20, "\xff")}
	x := maps(names[:2], parts[:2]...)
	was := testaid.Expr(maps(names, parts...))
	for range 2 {
		if s, e := feelprint.Print(x); s != "{a: 1, b: -a}" || e != api.OK {
			t.Errorf("%q %d", s, e)
		}
		if s, e := feelprint.Bare(x); s != "{a: (1), b: (-(a))}" || e != api.OK {
			t.Errorf("%q %d", s, e)
		}
	}
	if now := testaid.Expr(maps(names, parts...)); now != was {
		t.Errorf("changed: %s", now)
	}
	empty := api.Expr{Kind: api.ListExpr, Names: []string{}, L: []api.Expr{}}
	if s, e := feelprint.Print(list(empty, list())); s != "[[], []]" || e != api.OK {
		t.Errorf("%q %d", s, e)
	}
}

// Many write one expression at a time.
func TestSideBySide(t *testing.T) {
	x := list(samples()...)
	text, bare := told(x, false), told(x, true)
	var group sync.WaitGroup
	for range 8 {
		group.Go(func() {
			for range 200 {
				s, _ := feelprint.Print(x)
				b, _ := feelprint.Bare(x)
				if s != text || b != bare || feelprint.Level(x) != 8 {
					t.Errorf("%q %q", s, b)
				}
			}
		})
	}
	group.Wait()
}
