package feelparse_test

import (
	"math"
	"math/rand"
	"slices"
	"sync"
	"testing"

	"tipstave/api"
	"tipstave/expr"
	"tipstave/feelparse"
	"tipstave/feelprint"
	"tipstave/scope"
	"tipstave/testaid"
)

// holdCall holds what Expr or Test answered.
func holdCall(t *testing.T, what string, x api.Expr, at int, e api.Errno, want api.Expr, wantAt int, wantE api.Errno) {
	t.Helper()
	if at != wantAt || e != wantE || testaid.Expr(x) != testaid.Expr(want) {
		t.Fatalf("%s: %s %d %d, want %s %d %d", what, shown(x), at, e, shown(want), wantAt, wantE)
	}
}

// model is what a Parser must be.
type model struct {
	tokens []api.Lex
	names  []string
	passed int
	at     int
	e      api.Errno
}

func (m *model) call(rule string) (api.Expr, int, api.Errno) {
	if m.e != api.OK {
		return api.Expr{}, m.at, m.e
	}
	x, at, passed, e := testaid.ToldNext(rules, rule, m.tokens, m.passed, m.names)
	m.passed = passed
	if e != api.OK {
		m.at, m.e = at, e
	}
	return x, at, e
}

func (m *model) take(kind int, s string) bool {
	t := m.tokens[m.passed]
	if m.e != api.OK || t.Kind == api.Finish || t.Kind != kind || t.S != s {
		return false
	}
	m.passed++
	return true
}

// holdSteps holds a parser against the chapter, by calls that are chosen.
func holdSteps(t *testing.T, tokens []api.Lex, names []string, pick func(int) int) {
	t.Helper()
	p := feelparse.New(tokens, scopeOf(t, names...))
	m := model{tokens: tokens, names: names}
	for range len(tokens) + 4 {
		ahead := m.tokens[m.passed]
		if p.Next() != ahead {
			t.Fatalf("%v: Next %v, want %v", tokens, p.Next(), ahead)
		}
		switch pick(6) {
		case 0, 1:
			want, wantAt, wantE := m.call("expr")
			x, at, e := p.Expr()
			holdCall(t, "Expr", x, at, e, want, wantAt, wantE)
		case 2, 3:
			want, wantAt, wantE := m.call("part")
			x, at, e := p.Test()
			holdCall(t, "Test", x, at, e, want, wantAt, wantE)
		case 4:
			if got, want := p.Take(ahead.Kind, ahead.S), m.take(ahead.Kind, ahead.S); got != want {
				t.Fatalf("%v: Take(%v): %v", tokens, ahead, got)
			}
		case 5:
			kind, s := pick(7)-1, []string{ahead.S, "", ",", "a", ")", "or"}[pick(6)]
			if got, want := p.Take(kind, s), m.take(kind, s); got != want {
				t.Fatalf("%v: Take(%d, %q): %v", tokens, kind, s, got)
			}
		}
	}
}

// P12.2: parsers by chance: expressions, tests and other tokens in a row, and calls in any order.
func TestStepsByChance(t *testing.T) {
	t.Parallel()
	r := rand.New(rand.NewSource(5))
	odd := lex(t, ", < <= > >= = ) ( or and a b item x 1 \"s\" \",\" not then - [ ] .. in return { }")
	names := []string{"a", "b", "a b", "c", "item", "\u00e4"}
	for range 6000 {
		text := ""
		for range 1 + r.Intn(4) {
			x := anyExpr(r, 1+r.Intn(4))
			if r.Intn(3) == 0 {
				x = of(api.TestExpr, testaid.TestSigns()[r.Intn(4)], x)
			}
			s, _ := feelprint.Print(x)
			text += s + []string{" , ", " ", " ) ", " or "}[r.Intn(4)]
		}
		tokens := lex(t, text)
		for range r.Intn(3) {
			tokens = slices.Insert(tokens, r.Intn(len(tokens)), odd[r.Intn(len(odd)-1)])
		}
		for i := range tokens { // places that rise
			tokens[i].At = 3 * i
		}
		holdSteps(t, tokens, names, r.Intn)
	}
}

// P12.2: a row of tests and expressions, gone through as layer 13 does.
func TestThrough(t *testing.T) {
	p := feelparse.New(lex(t, "< a or , a < b , net price net ) b"), scopeOf(t, "a", "b", "net", "net price"))
	less := of(api.TestExpr, "<", name("a"))
	x, at, e := p.Test()
	holdCall(t, "Test", x, at, e, less, 4, api.OK)
	if p.Next() != (api.Lex{Kind: api.Key, At: 4, S: "or"}) || p.Take(api.Word, "or") || p.Take(api.Key, "and") || p.Take(api.Sign, ",") || !p.Take(api.Key, "or") || !p.Take(api.Sign, ",") {
		t.Error(p.Next())
	}
	x, at, e = p.Test()
	holdCall(t, "Test", x, at, e, of(api.BinExpr, "<", name("a"), name("b")), 15, api.OK)
	if !p.Take(api.Sign, ",") || p.Take(api.Sign, ",") {
		t.Error(p.Next())
	}
	x, at, e = p.Expr()
	holdCall(t, "Expr", x, at, e, name("net price"), 27, api.OK)
	x, at, e = p.Expr()
	holdCall(t, "Expr", x, at, e, name("net"), 31, api.OK)
	if !p.Take(api.Sign, ")") || !p.Take(api.Word, "b") {
		t.Error(p.Next())
	}
	for range 3 {
		if end := (api.Lex{Kind: api.Finish, At: 34}); p.Next() != end || p.Take(api.Finish, "") {
			t.Error(p.Next())
		}
	}
	x, at, e = p.Expr()
	holdCall(t, "Expr", x, at, e, api.Expr{}, 34, api.ErrSyntax)
	x, at, e = p.Test()
	holdCall(t, "Test", x, at, e, api.Expr{}, 34, api.ErrSyntax)
}

// P12.2: once an error was told it is told by all calls behind, and nothing is taken.
func TestStays(t *testing.T) {
	for _, c := range []struct {
		s  string
		at int
		e  api.Errno
	}{{"a + ) b", 4, api.ErrSyntax}, {"q , a", 0, api.ErrScope}, {"{a: 1, a: 2}", 7, api.ErrTwice}, {"-" + times(1001, "1"), 1, api.ErrLong}, {times(200, "-") + "a", 0, api.ErrDeep}, {"", 0, api.ErrSyntax}} {
		p := feelparse.New(lex(t, c.s), scopeOf(t, "a", "b"))
		begin := p.Next()
		for i := range 6 {
			call := p.Expr
			if i%2 == 1 {
				call = p.Test
			}
			x, at, e := call()
			holdCall(t, c.s, x, at, e, api.Expr{}, c.at, c.e)
			// A refused call has changed nothing else.
			if p.Take(p.Next().Kind, p.Next().S) || p.Take(api.Word, "a") || p.Next() != begin {
				t.Errorf("%.20q: %v", c.s, p.Next())
			}
		}
	}
}

// P12.2: what a test may be, and what it may not.
func TestTest(t *testing.T) {
	a, b := name("a"), name("b")
	minus := func(n int) string { return times(n, "-") + "1" }
	in := scopeOf(t, "a", "b")
	for _, c := range []struct {
		s    string
		want api.Expr
		at   int
		e    api.Errno
	}{
		{"< 5", of(api.TestExpr, "<", num("5")), 3, api.OK},
		{"<= a+b", of(api.TestExpr, "<=", of(api.BinExpr, "+", a, b)), 6, api.OK},
		{">a and b", of(api.TestExpr, ">", a), 3, api.OK},
		{">= -a = b", of(api.TestExpr, ">=", of(api.NegExpr, "", a)), 6, api.OK},
		{"[1..b] ]", of(api.SpanExpr, "[]", num("1"), b), 7, api.OK},
		{"a or b b", of(api.BinExpr, "or", a, b), 7, api.OK},
		{"if a then b else a", of(api.IfExpr, "", a, b, a), 18, api.OK},
		{"a in < b", of(api.InExpr, "", a, of(api.TestExpr, "<", b)), 8, api.OK},
		{"-1", of(api.NegExpr, "", num("1")), 2, api.OK},
		{"= a", api.Expr{}, 0, api.ErrSyntax},
		{"!= a", api.Expr{}, 0, api.ErrSyntax},
		{`"<" a`, of(api.StrExpr, "<"), 4, api.OK},
		{"< < a", api.Expr{}, 2, api.ErrSyntax},
		{"< if a then b else a", api.Expr{}, 2, api.ErrSyntax},
		{"(< a)", api.Expr{}, 1, api.ErrSyntax},
		{"<", api.Expr{}, 1, api.ErrSyntax},
		{"not(a)", api.Expr{}, 0, api.ErrSyntax},
		{"-", api.Expr{}, 1, api.ErrSyntax},
		{"< q", api.Expr{}, 2, api.ErrScope},
		{"< " + minus(198), of(api.TestExpr, "<", chain(198, num("1"))), 201, api.OK},
		{"< " + minus(199), api.Expr{}, 0, api.ErrDeep},
		{"< " + minus(200), api.Expr{}, 2, api.ErrDeep},
	} {
		p := feelparse.New(lex(t, c.s), in)
		x, at, e := p.Test()
		holdCall(t, c.s, x, at, e, c.want, c.at, c.e)
		if e == api.OK {
			text, f := feelprint.Print(x)
			p := feelparse.New(lex(t, text), in)
			y, at, e := p.Test()
			holdCall(t, text, y, at, e, x, len(text), f)
		}
	}
}

// P12.2: what is in scope of what is read behind an expression is what was in scope ahead of it, and so is the nesting.
func TestGoesBack(t *testing.T) {
	for _, s := range []string{"for x in a return x", "a[item]", "function(x) x", "{x: 1, y: x}", "every item in a satisfies item", "((a))", "if a then a else a"} {
		p := feelparse.New(lex(t, s+" , "+times(200, "(")+"a"+times(200, ")")+" , x , item"), scopeOf(t, "a"))
		for range 2 {
			if _, _, e := p.Expr(); e != api.OK || !p.Take(api.Sign, ",") {
				t.Errorf("%q: %d", s, e)
			}
		}
		if _, _, e := p.Expr(); e != api.ErrScope {
			t.Errorf("%q: %d", s, e)
		}
	}
}

// P12.2: a nil Parser, and a nil scope.
func TestNil(t *testing.T) {
	var p *feelparse.Parser
	for range 2 {
		x, at, e := p.Expr()
		holdCall(t, "Expr", x, at, e, api.Expr{}, 0, api.ErrNil)
		x, at, e = p.Test()
		holdCall(t, "Test", x, at, e, api.Expr{}, 0, api.ErrNil)
		if p.Next() != (api.Lex{}) || p.Take(0, "") || p.Take(api.Finish, "") {
			t.Error(p.Next())
		}
	}
	p = feelparse.New(lex(t, "1 a"), nil)
	x, at, e := p.Expr()
	holdCall(t, "Expr", x, at, e, num("1"), 2, api.OK)
	x, at, e = p.Expr()
	holdCall(t, "Expr", x, at, e, api.Expr{}, 2, api.ErrScope)
}

// P2: parsers have nothing to do with one another, nor with the lists that they were given, nor what they answered.
func TestApart(t *testing.T) {
	in := scopeOf(t, "a", "b")
	tokens := lex(t, "[a, b] {k: a, l: b}")
	was := slices.Clone(tokens)
	p, q := feelparse.New(tokens, in), feelparse.New(tokens, in)
	if _, _, e := p.Expr(); e != api.OK || !slices.Equal(tokens, was) || q.Next() != was[0] {
		t.Error(e, tokens)
	}
	for i := range tokens {
		tokens[i] = api.Lex{Kind: api.Sign, S: ")"}
	}
	x, at, e := q.Expr()
	holdCall(t, "Expr", x, at, e, list(name("a"), name("b")), 7, api.OK)
	x.L[0], x.L[1] = of(20, ""), of(20, "")
	y, at, e := p.Expr()
	want := maps([]string{"k", "l"}, name("a"), name("b"))
	holdCall(t, "Expr", y, at, e, want, 19, api.OK)
	y.L[0], y.Names[0] = of(20, ""), "?"
	z, at, e := q.Expr()
	holdCall(t, "Expr", z, at, e, want, 19, api.OK)
	if _, _, e := feelparse.New(nil, in).Expr(); e == api.OK {
		t.Error("an expression of nothing")
	}
	// What lies behind a list's length isn't read.
	_, at, e = feelparse.New(lex(t, "a+b")[:1], in).Expr()
	if e != api.OK {
		t.Error(at, e)
	}
}

// P1, P12.2: of tokens that no text has all calls end.
func TestOddTokens(t *testing.T) {
	r := rand.New(rand.NewSource(6))
	texts := []string{"", "a", "if", "(", ")", "[", "]", "{", "}", "-", "..", ".", ",", ":", "in", "or", "and", "between", "for", "return", "function", "<", "=", "1", "1.", "\xff", "a b", "item", "+"}
	kinds := []int{0, 0, 1, 1, 2, 3, 4, 4, 4, 5, 6, -1, math.MinInt, math.MaxInt}
	ats := []int{0, 1, -1, math.MinInt, math.MaxInt}
	in := scopeOf(t, "a")
	for range 30000 {
		l := make([]api.Lex, r.Intn(12))
		for i := range l {
			l[i] = api.Lex{Kind: kinds[r.Intn(len(kinds))], At: ats[r.Intn(len(ats))], S: texts[r.Intn(len(texts))]}
		}
		p := feelparse.New(l, in)
		for range 5 {
			p.Expr()
			p.Take(kinds[r.Intn(len(kinds))], texts[r.Intn(len(texts))])
			p.Test()
			p.Take(p.Next().Kind, p.Next().S)
		}
	}
	testaid.EveryRow([]api.Lex{{Kind: api.Word, S: "if"}, {Kind: api.Key, S: "for"}, {Kind: api.Sign, S: "("}, {Kind: api.Num, S: "x"}, {Kind: api.Finish}, {Kind: 7}}, 5, func(l []api.Lex) {
		p := feelparse.New(l, nil)
		p.Test()
		p.Expr()
	})
}

// Many parse at a time, with one scope.
func TestSideBySide(t *testing.T) {
	in := scopeOf(t, "a", "b", "a b")
	const text = "for x in a b[item > 1] return {k: x, l: [k, function(p) p + a]}"
	want, _, _ := feelparse.Parse(text, in)
	if expr.Check(want) != api.OK || expr.Depth(want) != 6 {
		t.Error(shown(want))
	}
	var group sync.WaitGroup
	for range 8 {
		group.Go(func() {
			for range 300 {
				x, at, e := feelparse.Parse(text, in)
				if e != api.OK || at != len(text) || !expr.Same(x, want) {
					t.Errorf("%s %d %d", shown(x), at, e)
				}
				if _, at, e := feelparse.Parse(text+"q", (*scope.Scope)(nil)); e != api.ErrScope || at != 9 {
					t.Errorf("%d %d", at, e)
				}
			}
		})
	}
	group.Wait()
}
