package logic_test

import (
	"math/rand"
	"slices"
	"testing"

	"tipstave/api"
	"tipstave/scope"
	"tipstave/testaid"
)

// What the tests' logics are made of.

var (
	of, name, num     = testaid.Of, testaid.Name, testaid.Num
	list, function    = testaid.List, testaid.Function
	chain, numbered   = testaid.Chain, testaid.Numbered
	one, a, b         = num("1"), name("a"), name("b")
	test              = of(api.TestExpr, "<", one)
	wrongName         = name("if")
	wrongKind         = of(20, "")
	wrongUtf          = of(api.StrExpr, "\xff")
	always, less      = api.Tests{Any: true}, tests(of(api.TestExpr, "<", num("5")))
	never, wrongTests = api.Tests{}, tests(one, wrongUtf)
)

func tests(l ...api.Expr) api.Tests { return api.Tests{L: l} }

func lit(x api.Expr) api.Logic { return api.Logic{Kind: api.Literal, Expr: x} }

// context has names as they are told, and an empty one, if there is one logic more.
func context(names []string, l ...api.Logic) api.Logic {
	if len(names) == len(l)-1 {
		names = append(slices.Clone(names), "")
	}
	return api.Logic{Kind: api.Context, Names: names, L: l}
}

func invoke(f string, names []string, l ...api.Logic) api.Logic {
	return api.Logic{Kind: api.Invoke, Expr: name(f), Names: names, L: l}
}

func row(in []api.Tests, out ...api.Expr) api.Rule { return api.Rule{In: in, Out: out} }

// table has two inputs, two outputs and three rules.
func table() api.Logic {
	return api.Logic{
		Kind: api.Table, Policy: "FIRST",
		Inputs:  []api.Expr{name("x1"), name("x2")},
		Outputs: []string{"o", "net price"},
		Rules: []api.Rule{
			row([]api.Tests{always, less}, name("x3"), one),
			row([]api.Tests{tests(name("x4"), name("x5")), always}, one, name("x6")),
			row([]api.Tests{always, tests(of(api.TestExpr, ">", name("x7")))}, name("x8"), name("x9")),
		},
	}
}

// bare is a table that has no more than it must.
func bare(policy string) api.Logic {
	return api.Logic{Kind: api.Table, Policy: policy, Outputs: []string{"o"}}
}

func rightLogics() []api.Logic {
	return []api.Logic{
		lit(one), lit(list(a, b)), table(), bare("ANY"),
		context([]string{"x"}, lit(one)), context(nil, lit(a)), context([]string{"x"}, lit(a), lit(name("x"))), context([]string{"x", "y"}, table(), bare("UNIQUE")),
		invoke("f", nil), invoke("a b", []string{"p", "q"}, lit(one), lit(a)),
	}
}

// wrongLogics are such, at least one of each error but ErrDeep, and by each thing that is asked.
func wrongLogics() []api.Logic {
	return []api.Logic{
		{Kind: 4}, {Kind: -1, Expr: one, L: []api.Logic{lit(one)}},
		{}, lit(test), lit(wrongKind), lit(wrongUtf), lit(wrongName), {Expr: one, Names: []string{"p"}}, {Expr: one, L: []api.Logic{lit(one)}}, {Expr: one, Names: []string{"p"}, L: []api.Logic{lit(one)}},
		bare("any"), {Kind: 1, Policy: "ANY"}, {Kind: 1, Policy: "ANY", Outputs: []string{"if"}}, {Kind: 1, Policy: "ANY", Outputs: []string{"o", "o"}}, {Kind: 1, Policy: "ANY", Outputs: []string{"o"}, Inputs: []api.Expr{wrongUtf}},
		{Kind: 1, Policy: "ANY", Outputs: []string{"o"}, Rules: []api.Rule{{}}}, {Kind: 1, Policy: "ANY", Outputs: []string{"o"}, Rules: []api.Rule{row(nil, test)}},
		context(nil), context([]string{"p", "q"}, lit(one)), context([]string{"if"}, lit(one)), context([]string{"p", "p"}, lit(one), lit(one)),
		{Kind: 3, Expr: one}, invoke("if", nil), invoke("f", []string{"p"}), invoke("f", []string{""}, lit(one)), invoke("f", []string{"p", "p"}, lit(one), lit(one)),
	}
}

// clone shares no list of logics, names, expressions or rules with what it is made of.
func clone(l api.Logic) api.Logic {
	l.Inputs, l.Outputs, l.Names, l.Rules, l.L = slices.Clone(l.Inputs), slices.Clone(l.Outputs), slices.Clone(l.Names), slices.Clone(l.Rules), slices.Clone(l.L)
	for i, r := range l.Rules {
		l.Rules[i] = api.Rule{In: slices.Clone(r.In), Out: slices.Clone(r.Out)}
	}
	for i, x := range l.L {
		l.L[i] = clone(x)
	}
	return l
}

// changes are ways to change one thing of a logic.
func changes() []func(l *api.Logic) {
	return []func(l *api.Logic){
		func(l *api.Logic) { l.Kind++ },
		func(l *api.Logic) { l.Expr.S += "x" },
		func(l *api.Logic) { l.Expr.L = []api.Expr{one} },
		func(l *api.Logic) { l.Policy += "x" },
		func(l *api.Logic) { l.Inputs = append(slices.Clone(l.Inputs), one) },
		func(l *api.Logic) { l.Outputs = append(slices.Clone(l.Outputs), "z") },
		func(l *api.Logic) { l.Rules = append(slices.Clone(l.Rules), api.Rule{}) },
		func(l *api.Logic) { l.Names = append(slices.Clone(l.Names), "z") },
		func(l *api.Logic) { l.L = append(slices.Clone(l.L), lit(one)) },
		func(l *api.Logic) { slices.Reverse(l.Inputs) },
		func(l *api.Logic) { slices.Reverse(l.Outputs) },
		func(l *api.Logic) { slices.Reverse(l.Rules) },
		func(l *api.Logic) { slices.Reverse(l.Names) },
		func(l *api.Logic) { slices.Reverse(l.L) },
		func(l *api.Logic) { l.Inputs = l.Inputs[min(1, len(l.Inputs)):] },
		func(l *api.Logic) { l.Rules = l.Rules[min(1, len(l.Rules)):] },
		func(l *api.Logic) { l.L = l.L[min(1, len(l.L)):] },
		inFirst(func(l *api.Logic) *[]api.Expr { return &l.Inputs }, func(x *api.Expr) { x.S += "x" }),
		inFirst(func(l *api.Logic) *[]string { return &l.Outputs }, func(s *string) { *s += "x" }),
		inFirst(func(l *api.Logic) *[]string { return &l.Names }, func(s *string) { *s += "x" }),
		inFirst(func(l *api.Logic) *[]api.Logic { return &l.L }, func(x *api.Logic) { x.Policy += "x" }),
		inRule(func(r *api.Rule) { r.In[0].Not = !r.In[0].Not }),
		inRule(func(r *api.Rule) { r.In[len(r.In)-1].L = append(slices.Clone(r.In[len(r.In)-1].L), one) }),
		inRule(func(r *api.Rule) { r.Out[len(r.Out)-1].S += "x" }),
		inRule(func(r *api.Rule) { r.In = r.In[1:] }),
		inRule(func(r *api.Rule) { r.Out = r.Out[1:] }),
		inRule(func(r *api.Rule) { slices.Reverse(r.In) }),
		inRule(func(r *api.Rule) { slices.Reverse(r.Out) }),
	}
}

// inFirst changes the first one of a list, if there is one.
func inFirst[T any](in func(*api.Logic) *[]T, change func(*T)) func(*api.Logic) {
	return func(l *api.Logic) {
		if p := in(l); len(*p) > 0 {
			change(&(*p)[0])
		}
	}
}

// inRule changes the last rule, if there is one, with something in it.
func inRule(change func(*api.Rule)) func(*api.Logic) {
	return func(l *api.Logic) {
		last := len(l.Rules) - 1
		if last >= 0 && len(l.Rules[last].In) > 0 && len(l.Rules[last].Out) > 0 {
			change(&l.Rules[last])
		}
	}
}

func anyName(r *rand.Rand) string {
	l := []string{"a", "b", "c", "a b", "item", "\u00e4"}
	return l[r.Intn(len(l))]
}

func anyNames(r *rand.Rand, n int) []string {
	l := []string{"a", "b", "c", "a b", "item", "\u00e4", "p", "q"}
	r.Shuffle(len(l), func(i, k int) { l[i], l[k] = l[k], l[i] })
	return l[:n]
}

func anyExpr(r *rand.Rand, deep int) api.Expr {
	return testaid.AnyExpr(r.Intn, deep, func(deep int) api.Expr { return anyExpr(r, deep) })
}

// times are so many things by chance.
func times[T any](n int, next func() T) []T {
	var l []T
	for range n {
		l = append(l, next())
	}
	return l
}

// anyLogic is a right logic by chance, no deeper than told.
func anyLogic(r *rand.Rand, deep int) api.Logic {
	within := func() api.Logic { return anyLogic(r, deep-1) }
	part := func() api.Expr { return anyExpr(r, 1+r.Intn(3)) }
	kind := r.Intn(4)
	if deep == 1 {
		kind = r.Intn(2)
	}
	switch kind {
	case api.Table:
		in, out := r.Intn(3), 1+r.Intn(2)
		l := api.Logic{Kind: kind, Policy: policies[r.Intn(7)], Inputs: times(in, part), Outputs: anyNames(r, out)}
		l.Rules = times(r.Intn(4), func() api.Rule {
			some := func() api.Tests {
				return testaid.AnyTests(r.Intn, func(deep int) api.Expr { return anyExpr(r, deep) })
			}
			return api.Rule{In: times(in, some), Out: times(out, part)}
		})
		return l
	case api.Context:
		n := 1 + r.Intn(4)
		l := context(anyNames(r, n), times(n, within)...)
		if r.Intn(2) == 0 {
			l.Names[n-1] = ""
		}
		return l
	case api.Invoke:
		n := r.Intn(3)
		return invoke(anyName(r), anyNames(r, n), times(n, within)...)
	}
	return lit(part())
}

// pick is a logic in another one, at any depth.
func pick(r *rand.Rand, l *api.Logic) *api.Logic {
	for len(l.L) > 0 && r.Intn(4) > 0 {
		l = &l.L[r.Intn(len(l.L))]
	}
	return l
}

func scopeOf(t *testing.T, l ...string) *scope.Scope {
	t.Helper()
	s, e := scope.New(l...)
	if e != api.OK {
		t.Fatalf("New(%.80q): %d", l, e)
	}
	return s
}
