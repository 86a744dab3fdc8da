package logic_test

import (
	"math/rand"
	"runtime/debug"
	"slices"
	"sync"
	"testing"

	"tipstave/api"
	"tipstave/logic"
	"tipstave/scope"
	"tipstave/testaid"
)

func holdScoped(t *testing.T, l api.Logic, names ...string) {
	t.Helper()
	if e, want := logic.Scoped(l, scopeOf(t, names...)), toldScoped(l, names); e != want {
		t.Fatalf("Scoped(%s) by %.80q: %d, want %d", shown(l), names, e, want)
	}
}

// holdFree holds the free names against the chapter, and that each of them, and no other name, is needed.
func holdFree(t *testing.T, l api.Logic) {
	t.Helper()
	free := logic.Free(l)
	if want := toldFree(l); !slices.Equal(free, want) {
		t.Fatalf("Free(%s): %.200q, want %.200q", shown(l), free, want)
	}
	if e := logic.Scoped(l, scopeOf(t, free...)); e != api.OK {
		t.Fatalf("Scoped(%s) by its free names: %d", shown(l), e)
	}
	for i := range free {
		less := slices.Delete(slices.Clone(free), i, i+1)
		if e := logic.Scoped(l, scopeOf(t, less...)); e != api.ErrScope {
			t.Fatalf("Scoped(%s) without %q: %d", shown(l), free[i], e)
		}
	}
}

// P15.2: the chapter's example, and one of each thing that brings names, or doesn't.
func TestFree(t *testing.T) {
	x, y := lit(name("x")), lit(name("y"))
	both := lit(list(name("x"), name("y")))
	for _, c := range []struct {
		l    api.Logic
		free []string
	}{
		{context([]string{"a"}, lit(one), lit(of(api.BinExpr, "+", a, b))), []string{"b"}},
		{lit(one), nil},
		{lit(list(b, a, name("B"), name("\u00e4"), name("a b"), a, name("_"))), []string{"B", "_", "a", "a b", "b", "\u00e4"}},
		{table(), []string{"x1", "x2", "x3", "x4", "x5", "x6", "x7", "x8", "x9"}},
		{bare("ANY"), nil},
		// Of a Context an L has the names ahead of its own, and neither its own nor those behind it.
		{context([]string{"x"}, x), []string{"x"}},
		{context([]string{"x", "y"}, y, x), []string{"y"}},
		{context([]string{"x", "y"}, x, y), []string{"x", "y"}},
		{context([]string{"x", "y"}, lit(one), both), []string{"y"}},
		{context([]string{"x", "y"}, lit(one), lit(one), both), nil},
		{context([]string{"x", "y", "z"}, lit(one), lit(one), both), nil},
		{context([]string{"x"}, lit(one), context([]string{"y"}, x, both)), nil},
		{context([]string{"x"}, context([]string{"y"}, lit(one), y), y), []string{"y"}},
		{context([]string{"x", "z"}, context([]string{"x"}, lit(one), x), x), nil},
		{context([]string{"z", "x"}, context([]string{"x"}, lit(one), x), x), []string{"x"}},
		{context([]string{"z"}, context([]string{"z", "x"}, lit(name("z")), lit(name("z"))), lit(one)), []string{"z"}},
		{context([]string{"x1", "x2", "x3", "x4", "x5"}, lit(one), lit(one), lit(one), lit(one), table()), []string{"x5", "x6", "x7", "x8", "x9"}},
		{context([]string{"x y"}, lit(one), lit(name("x y"))), nil},
		{context([]string{"x y", "z"}, lit(one), x, both), []string{"x", "y"}},
		// An Invoke brings none, and needs what it calls.
		{invoke("f", nil), []string{"f"}},
		{invoke("f", []string{"x", "y"}, y, x), []string{"f", "x", "y"}},
		{invoke("f", []string{"x", "y"}, lit(one), both), []string{"f", "x", "y"}},
		{context([]string{"f"}, lit(one), invoke("f", []string{"p"}, lit(name("f")))), nil},
		{context([]string{"f", "g"}, invoke("f", nil), invoke("g", nil)), []string{"f", "g"}},
		// Outputs bring none, either.
		{context([]string{"k"}, bare("ANY"), lit(name("o"))), []string{"o"}},
		{api.Logic{Kind: 1, Policy: "ANY", Inputs: []api.Expr{one}, Outputs: []string{"a", "b"}, Rules: []api.Rule{row([]api.Tests{tests(a)}, b, a)}}, []string{"a", "b"}},
		// What an expression brings is in scope in it alone.
		{context([]string{"k"}, lit(function(list(a, b), "a")), lit(a)), []string{"a", "b"}},
		{api.Logic{Kind: 1, Policy: "ANY", Inputs: []api.Expr{of(api.ForExpr, "a", one, a)}, Outputs: []string{"o"}, Rules: []api.Rule{row([]api.Tests{tests(of(api.TestExpr, "<", of(api.FilterExpr, "", one, name("item"))), name("item"))}, one)}}, []string{"item"}},
		{api.Logic{Kind: 1, Policy: "ANY", Inputs: []api.Expr{one}, Outputs: []string{"o"}, Rules: []api.Rule{row([]api.Tests{{Not: true, L: []api.Expr{a, test}}}, one)}}, []string{"a"}},
	} {
		if e := logic.Check(c.l); e != api.OK {
			t.Fatalf("Check(%s): %d", shown(c.l), e)
		}
		if got := logic.Free(c.l); !slices.Equal(got, c.free) {
			t.Errorf("Free(%s): %q, want %q", shown(c.l), got, c.free)
		}
		holdFree(t, c.l)
		for _, names := range [][]string{nil, {"a"}, {"x"}, {"x", "y"}, {"f", "x", "y", "z", "a", "b"}} {
			holdScoped(t, c.l, names...)
		}
	}
}

// P15.2: of what stands in a table nothing is passed over.
func TestScopedTable(t *testing.T) {
	all := logic.Free(table())
	if len(all) != 9 {
		t.Fatalf("%q", all)
	}
	for i := range all {
		less := slices.Delete(slices.Clone(all), i, i+1)
		for _, l := range []api.Logic{table(), context([]string{"k"}, table()), invoke("x1", []string{"p"}, lit(one), table()), context([]string{"k", "m"}, lit(one), table())} {
			if e := logic.Scoped(l, scopeOf(t, less...)); e != api.ErrScope {
				t.Errorf("Scoped(%s) by %q: %d", shown(l), less, e)
			}
		}
		// A name ahead in a Context is as good as one that is in scope of it.
		l := context([]string{all[i]}, lit(one), table())
		if e := logic.Scoped(l, scopeOf(t, less...)); e != api.OK {
			t.Errorf("Scoped(%s) by %q: %d", shown(l), less, e)
		}
	}
	if e := logic.Scoped(table(), scopeOf(t, all...)); e != api.OK {
		t.Error(e)
	}
}

// P15.2: a nil scope is one without names.
func TestNilScope(t *testing.T) {
	for _, s := range []*scope.Scope{nil, scopeOf(t)} {
		for _, l := range rightLogics() {
			want := toldScoped(l, nil)
			if e := logic.Scoped(l, s); e != want {
				t.Errorf("Scoped(%s): %d, want %d", shown(l), e, want)
			}
		}
		if e := logic.Scoped(context([]string{"x", "y"}, lit(one), lit(name("x"))), s); e != api.OK {
			t.Error(e)
		}
	}
}

// P15.2: of a name that isn't in scope and a scope that would be too great that is told which is ahead, wherever both stand.
func TestFirstOfScope(t *testing.T) {
	full := scopeOf(t, numbered("n", api.MaxScope)...)
	bad, long := name("q"), function(one, "z")
	known := func() api.Logic {
		l := table()
		for i := range l.Inputs {
			l.Inputs[i] = name("n1")
		}
		for i := range l.Rules {
			l.Rules[i] = row([]api.Tests{always, tests(one, name("n7"))}, name("n2"), one)
		}
		return l
	}
	for i, first := range faulty(bad) {
		for k, second := range faulty(long) {
			if i == k {
				continue
			}
			l := known()
			first(&l)
			second(&l)
			want := api.ErrScope
			if k < i {
				want = api.ErrLong
			}
			for _, x := range []api.Logic{l, context([]string{"n1"}, l, lit(one)), invoke("n2", []string{"p", "n"}, lit(one), l), context([]string{"x", "y"}, l, lit(bad)), invoke("n3", []string{"x", "y"}, l, lit(long))} {
				if e := logic.Scoped(x, full); e != want {
					t.Errorf("Scoped(%s): %d, want %d", shown(x), e, want)
				}
			}
		}
	}
	if e := logic.Scoped(known(), full); e != api.OK {
		t.Error(e)
	}
}

// P15.2: a logic's own things go ahead of its L, and a scope that would be too great is told at the L whose it is.
func TestScopeOrLong(t *testing.T) {
	full := scopeOf(t, numbered("n", api.MaxScope)...)
	almost := scopeOf(t, numbered("n", api.MaxScope)[1:]...)
	bad, long, fine := lit(name("q")), lit(function(one, "z")), lit(name("n7"))
	for _, c := range []struct {
		l            api.Logic
		almost, full api.Errno
	}{
		{context([]string{"x"}, fine), api.OK, api.OK},
		{context([]string{"x"}, fine, fine), api.OK, api.ErrLong},
		{context([]string{"x", "y"}, fine, fine), api.OK, api.ErrLong},
		{context([]string{"x", "y"}, fine, fine, fine), api.ErrLong, api.ErrLong},
		{context([]string{"x", "y"}, bad, fine, fine), api.ErrScope, api.ErrScope},
		{context([]string{"x", "y"}, fine, bad, fine), api.ErrScope, api.ErrLong},
		{context([]string{"x", "y"}, fine, fine, bad), api.ErrLong, api.ErrLong},
		{context([]string{"x", "y"}, fine, lit(name("x")), fine), api.ErrLong, api.ErrLong},
		{context([]string{"n1", "x"}, fine, bad, fine), api.ErrScope, api.ErrScope},
		{context([]string{"n1", "n2", "x"}, fine, fine, fine, bad), api.ErrScope, api.ErrLong},
		{context([]string{"n1", "n2"}, fine, fine, fine), api.OK, api.OK},
		{context([]string{"n0"}, lit(name("n0")), fine), api.ErrScope, api.OK},
		{context([]string{"n0"}, fine, lit(name("n0"))), api.OK, api.OK},
		{context([]string{"n0", "n9", "x"}, fine, fine, fine), api.OK, api.OK},
		{context([]string{"x"}, fine, long), api.ErrLong, api.ErrLong},
		{context([]string{"x"}, long, fine), api.OK, api.ErrLong},
		{context([]string{"x"}, context([]string{"y"}, fine, fine), fine), api.OK, api.ErrLong},
		{context([]string{"x"}, fine, context([]string{"y"}, fine, fine)), api.ErrLong, api.ErrLong},
		{context([]string{"x"}, fine, context([]string{"x"}, fine, lit(name("x")))), api.OK, api.ErrLong},
		{context([]string{"x"}, fine, context([]string{"y", "n3"}, bad, fine)), api.ErrScope, api.ErrLong},
		{context([]string{"x"}, fine, context([]string{"y", "n3"}, fine, bad)), api.ErrLong, api.ErrLong},
		{invoke("n1", []string{"x", "y", "z"}, fine, fine, fine), api.OK, api.OK},
		{invoke("q", []string{"x"}, context([]string{"x"}, fine, fine)), api.ErrScope, api.ErrScope},
		{invoke("n1", []string{"x", "y"}, context([]string{"x"}, fine, fine), bad), api.ErrScope, api.ErrLong},
		{invoke("n1", []string{"x", "y"}, bad, context([]string{"x"}, fine, fine)), api.ErrScope, api.ErrScope},
		{invoke("n1", []string{"x", "y"}, context([]string{"x"}, fine, lit(name("x"))), context([]string{"y"}, fine, lit(name("y")))), api.OK, api.ErrLong},
	} {
		if e := logic.Check(c.l); e != api.OK {
			t.Fatalf("Check(%s): %d", shown(c.l), e)
		}
		if e := logic.Scoped(c.l, almost); e != c.almost {
			t.Errorf("Scoped(%s) by one name less: %d, want %d", shown(c.l), e, c.almost)
		}
		if e := logic.Scoped(c.l, full); e != c.full {
			t.Errorf("Scoped(%s) by all names: %d, want %d", shown(c.l), e, c.full)
		}
	}
}

// P15.2: names by the thousand, brought by one Context, the last one with a name or without.
func TestScopeLimitOfOne(t *testing.T) {
	for n := 4094; n <= 4100; n++ {
		names := numbered("n", n)
		l := slices.Repeat([]api.Logic{lit(one)}, n)
		l[n-1] = lit(list(name("n0"), name("n4000")))
		unnamed := slices.Clone(names)
		unnamed[n-1] = ""
		want := api.OK
		if n > api.MaxScope+1 { // no L has the last name in scope
			want = api.ErrLong
		}
		for _, names := range [][]string{names, unnamed} {
			x := context(names, l...)
			if e := logic.Check(x); e != api.OK {
				t.Errorf("a Context of %d names: %d", n, e)
			}
			if e := logic.Scoped(x, nil); e != want {
				t.Errorf("a Context of %d names: %d, want %d", n, e, want)
			}
			if got := logic.Free(x); len(got) != 0 {
				t.Errorf("Free: %.80q", got)
			}
			if e := logic.Scoped(x, scopeOf(t, "n4", "n3999", "n17")); e != want {
				t.Errorf("a Context of %d names, some of them in scope: %d, want %d", n, e, want)
			}
		}
	}
}

// P15.2: a logic may have more free names than a scope, of which all are told.
func TestFreeMany(t *testing.T) {
	const n = 10000
	names := numbered("n", n)
	l := make([]api.Logic, n)
	for i := range l {
		l[i] = lit(list(name(names[i]), name(names[n-1-i])))
	}
	sorted := slices.Sorted(slices.Values(names))
	if got := logic.Free(invoke("n5", names, l...)); !slices.Equal(got, sorted) {
		t.Errorf("%d names", len(got))
	}
	// Each L of the front half has one name that is behind it and one that is its own; each of the other half has its own alone.
	if got := logic.Free(context(names, l...)); !slices.Equal(got, sorted) {
		t.Errorf("%d names", len(got))
	}
	if got := logic.Free(context(names, slices.Concat(slices.Repeat([]api.Logic{lit(one)}, n), l[:1])...)); len(got) != 0 {
		t.Errorf("%d names", len(got))
	}
}

// P15.2: right logics by chance, in scopes by chance.
func TestScopedByChance(t *testing.T) {
	r := rand.New(rand.NewSource(2))
	told := map[api.Errno]int{}
	for range 5000 {
		l := anyLogic(r, 1+r.Intn(5))
		holdFree(t, l)
		names := times(r.Intn(7), func() string { return anyName(r) })
		holdScoped(t, l, names...)
		told[logic.Scoped(l, scopeOf(t, names...))]++
	}
	if told[api.OK] < 500 || told[api.ErrScope] < 500 {
		t.Error(told)
	}
}

// P15.2: as by chance, in a scope to which few names may come.
func TestScopedNearLimit(t *testing.T) {
	r := rand.New(rand.NewSource(3))
	told := map[api.Errno]int{}
	for range 120 {
		l := anyLogic(r, 2+r.Intn(3))
		names := append(numbered("n", api.MaxScope-r.Intn(3)-3), "a", "b", "a b")
		holdScoped(t, l, names...)
		told[logic.Scoped(l, scopeOf(t, names...))]++
	}
	if told[api.OK] < 10 || told[api.ErrScope] < 10 || told[api.ErrLong] < 10 {
		t.Error(told)
	}
}

// P1, P15.1, P15.2: logics far deeper than may be; only Depth, Same and Check have an answer to give.
func TestVeryDeep(t *testing.T) {
	const n = 200000
	defer debug.SetMaxStack(debug.SetMaxStack(1 << 24))
	x, y, z := nested(n, lit(one)), nested(n, lit(one)), nested(n, lit(a))
	if logic.Depth(x) != n+1 || !logic.Same(x, y) || logic.Same(x, z) || logic.Same(x, x.L[0]) {
		t.Error(logic.Depth(x))
	}
	if e := logic.Check(x); e != api.ErrDeep {
		t.Error(e)
	}
	logic.Scoped(x, scopeOf(t, "f"))
	logic.Free(x)
}

// P1: what goes into itself is deeper than may be.
func TestEndless(t *testing.T) {
	for _, n := range []int{1, 2, 5} {
		l := make([]api.Logic, n)
		for i := range l {
			l[i] = invoke("f", numbered("n", n), l...)
			l[i].L = l
		}
		if e := logic.Check(l[0]); e != api.ErrDeep {
			t.Error(e)
		}
		logic.Scoped(l[0], scopeOf(t, "f"))
		logic.Free(l[0])
	}
}

// P15.1, P15.2: very wide logics.
func TestVeryWide(t *testing.T) {
	const n = 100000
	names := numbered("n", n)
	for _, x := range []api.Logic{context(names, slices.Repeat([]api.Logic{lit(one)}, n)...), invoke("f", names, slices.Repeat([]api.Logic{lit(one)}, n)...)} {
		want, free := api.ErrLong, []string(nil)
		if x.Kind == api.Invoke {
			want, free = api.ErrScope, []string{"f"}
		}
		if e := logic.Scoped(x, nil); e != want || logic.Check(x) != api.OK || logic.Depth(x) != 2 || !slices.Equal(logic.Free(x), free) {
			t.Error(e, logic.Check(x), logic.Depth(x), logic.Free(x))
		}
		x.Names = append(slices.Clone(names[:n-1]), "n7")
		if e := logic.Check(x); e != api.ErrTwice {
			t.Error(e)
		}
	}
	l := bare("COLLECT")
	l.Inputs = []api.Expr{a}
	l.Rules = slices.Repeat([]api.Rule{row([]api.Tests{less}, b)}, n)
	if e := logic.Check(l); e != api.OK || logic.Scoped(l, scopeOf(t, "a", "b")) != api.OK || !slices.Equal(logic.Free(l), []string{"a", "b"}) || !logic.Same(l, clone(l)) {
		t.Error(e, logic.Free(l))
	}
	x := clone(l)
	x.Rules[n-1].Out[0] = wrongUtf
	if e := logic.Check(x); e != api.ErrUtf || logic.Same(l, x) {
		t.Error(e)
	}
}

// P1: of wrong logics the calls end, whatever is wrong.
func TestScopedOfWrong(t *testing.T) {
	s := scopeOf(t, "a", "item")
	ask := func(l api.Logic) {
		logic.Scoped(l, s)
		logic.Scoped(l, nil)
		logic.Free(l)
	}
	for _, l := range wrongLogics() {
		ask(l)
		ask(context([]string{"\xff"}, l, l))
	}
	combined([]int{-1, 0, 1, 2, 3, 4}, []api.Expr{{}, wrongName, wrongKind, of(api.MapExpr, "", a, b)}, []api.Logic{{}, {Inputs: []api.Expr{wrongKind}, Rules: []api.Rule{{}, row([]api.Tests{never, {Any: true, L: []api.Expr{wrongUtf}}}, wrongName)}}}, everyNamed(), ask)
}

// P15.1, P15.2, rule 4: what is handed in stays as it was, and what lies behind its lists is neither read nor handed out; what is answered is each call's own.
func TestHandedIn(t *testing.T) {
	for _, l := range append(rightLogics(), wrongLogics()...) {
		was := whole(l)
		s := scopeOf(t, "a", "b")
		logic.Check(l)
		logic.Scoped(l, s)
		logic.Free(l)
		logic.Same(l, l)
		if whole(l) != was || !slices.Equal(slices.Collect(s.Names()), []string{"a", "b"}) {
			t.Errorf("%s, and was %s", shown(l), was)
		}
	}
	names := []string{"x", "x", "if"}
	inside := []api.Logic{lit(list(b, a)), {Kind: 9}, lit(wrongName)}
	rules := []api.Rule{row(nil, one), row(nil, wrongUtf), {}}
	for _, l := range []api.Logic{
		context(names[:1], inside[:1]...), {Kind: 3, Expr: name("f"), Names: names[:1], L: inside[:1]},
		{Kind: 1, Policy: "ANY", Inputs: []api.Expr{wrongKind}[:0], Outputs: names[:1], Rules: rules[:1], Names: names[1:1], L: inside[:0]},
	} {
		if e := logic.Check(l); e != api.OK {
			t.Errorf("Check(%s): %d", shown(l), e)
		}
		holdFree(t, l)
		if !logic.Same(l, clone(l)) {
			t.Errorf("Same(%s): false", shown(l))
		}
	}
	first, second := logic.Free(inside[0]), logic.Free(inside[0])
	first[0] = "z"
	if !slices.Equal(second, []string{"a", "b"}) || !slices.Equal(logic.Free(inside[0]), second) {
		t.Error(second)
	}
}

// Many ask of one logic, and of one scope, at a time.
func TestSideBySide(t *testing.T) {
	l := context([]string{"k"}, invoke("f", []string{"p"}, lit(a)), table())
	s := scopeOf(t, logic.Free(l)...)
	was := whole(l)
	var group sync.WaitGroup
	for range 8 {
		group.Go(func() {
			for range 200 {
				if logic.Check(l) != api.OK || logic.Scoped(l, s) != api.OK || len(logic.Free(l)) != 11 || logic.Depth(l) != 3 || !logic.Same(l, l) || len(slices.Collect(logic.Policies())) != 7 {
					t.Errorf("%d %d %q", logic.Check(l), logic.Scoped(l, s), logic.Free(l))
				}
			}
		})
	}
	group.Wait()
	if whole(l) != was {
		t.Error(shown(l))
	}
}

// P15.1: the errors of expressions and tests are those of layers 10 and 13, wherever they stand.
func TestErrorsOfParts(t *testing.T) {
	for _, x := range append(testaid.WrongExprs(), chain(200, one), of(api.TestExpr, "<", chain(199, one)), of(api.TestExpr, "<", chain(200, one))) {
		holdCheck(t, lit(x))
		holdCheck(t, api.Logic{Kind: 3, Expr: x})
		for _, fault := range faulty(x) {
			l := table()
			fault(&l)
			holdCheck(t, l)
			holdCheck(t, context(nil, l))
		}
	}
	for _, in := range []api.Tests{never, wrongTests, {Any: true, Not: true}, {Any: true, L: []api.Expr{one}}, {Not: true}, {Not: true, L: []api.Expr{test, wrongKind}}, tests(of(api.TestExpr, "<", test)), less, tests(test, test)} {
		for i := range table().Rules {
			for k := range table().Inputs {
				l := table()
				l.Rules[i].In[k] = in
				holdCheck(t, l)
			}
		}
	}
}
