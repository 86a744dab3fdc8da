package logic_test

import (
	"math"
	"math/rand"
	"slices"
	"strings"
	"testing"

	"tipstave/api"
	"tipstave/logic"
	"tipstave/testaid"
)

var policies = []string{"ANY", "COLLECT", "FIRST", "OUTPUT ORDER", "PRIORITY", "RULE ORDER", "UNIQUE"}

func holdCheck(t *testing.T, l api.Logic) {
	t.Helper()
	if e, want := logic.Check(l), toldCheck(l); e != want {
		t.Fatalf("Check(%s): %d, want %d", shown(l), e, want)
	}
}

func holdDepth(t *testing.T, l api.Logic) {
	t.Helper()
	if n, want := logic.Depth(l), toldDepth(l); n != want {
		t.Fatalf("Depth(%s): %d, want %d", shown(l), n, want)
	}
}

func holdSame(t *testing.T, x, y api.Logic) {
	t.Helper()
	want := toldSame(x, y)
	if logic.Same(x, y) != want || logic.Same(y, x) != want {
		t.Fatalf("Same(%s, %s): %v", shown(x), shown(y), !want)
	}
}

// P15.2: all policies in their order, also where not all are asked for, and time and again.
func TestPolicies(t *testing.T) {
	all := logic.Policies()
	for range 2 {
		if got := slices.Collect(all); !slices.Equal(got, policies) || !slices.IsSorted(got) {
			t.Errorf("%q", got)
		}
	}
	for n := range policies {
		var got []string
		for policy := range all {
			got = append(got, policy)
			if len(got) > n {
				break
			}
		}
		if !slices.Equal(got, policies[:n+1]) {
			t.Errorf("%q", got)
		}
	}
	got := slices.Collect(all)
	got[0] = "x"
	if logic.Check(bare("x")) != api.ErrForm || logic.Check(bare("ANY")) != api.OK {
		t.Error("what is told is kept")
	}
}

// P15.1: a table has a policy, and all others have none.
func TestPolicyOfTable(t *testing.T) {
	for _, s := range policies {
		if e := logic.Check(bare(s)); e != api.OK {
			t.Errorf("%q: %d", s, e)
		}
		for _, l := range []api.Logic{lit(one), context([]string{"x"}, lit(one)), invoke("f", nil)} {
			l.Policy = s
			if e := logic.Check(l); e != api.ErrForm {
				t.Errorf("Check(%s): %d", shown(l), e)
			}
		}
		for _, wrong := range []string{strings.ToLower(s), s + " ", " " + s, s[1:], s[:len(s)-1], s + "\x00", strings.ReplaceAll(s, " ", "  "), strings.ReplaceAll(s, " ", "_")} {
			l := bare(wrong)
			if e := logic.Check(l); e != toldCheck(l) {
				t.Errorf("%q: %d", wrong, e)
			}
		}
	}
	for _, s := range []string{"", "Any", "any", "OUTPUTORDER", "OUTPUT\tORDER", "OUTPUT", "ORDER", "RULE", "U", "\xff", "A", "UNIQUE,ANY"} {
		if e := logic.Check(bare(s)); e != api.ErrForm {
			t.Errorf("%q: %d", s, e)
		}
	}
}

// P15.1: kinds that are none, whatever else is wrong.
func TestKinds(t *testing.T) {
	for _, kind := range []int{math.MinInt, -256, -1, 4, 5, 256, 1 << 32, 1<<32 + 1, math.MaxInt} {
		for _, l := range append(rightLogics(), wrongLogics()...) {
			l.Kind = kind
			for _, x := range []api.Logic{l, context(nil, l), invoke("f", []string{"p"}, context([]string{"p"}, l, lit(wrongUtf)))} {
				if e := logic.Check(x); e != api.ErrArg {
					t.Errorf("Check(%s): %d", shown(x), e)
				}
			}
		}
	}
}

// combined tells all logics of a kind, an expression, what a table has, and what has names.
func combined(kinds []int, exprs []api.Expr, tables, nameds []api.Logic, tell func(api.Logic)) {
	for _, kind := range kinds {
		for _, x := range exprs {
			for _, l := range tables {
				for _, n := range nameds {
					l.Kind, l.Expr, l.Names, l.L = kind, x, n.Names, n.L
					tell(l)
				}
			}
		}
	}
}

// everyTable are logics of all policies, inputs, outputs and rules.
func everyTable() []api.Logic {
	var all []api.Logic
	for _, policy := range []string{"", "UNIQUE", "unique"} {
		for _, inputs := range [][]api.Expr{nil, {a}, {test}, {a, wrongName}, {one, {}}} {
			for _, outputs := range [][]string{nil, {"o"}, {"o", "p q"}, {"o", "o"}, {"o", "", "o"}, {"p  q"}, {"if"}} {
				for _, rules := range [][]api.Rule{
					nil, {{}}, {row(nil, one)}, {row([]api.Tests{always}, one)}, {row([]api.Tests{always}, one, b)}, {row([]api.Tests{less, always}, one)}, {row([]api.Tests{less, always}, a, b), row([]api.Tests{always, less}, a, b)},
					{row([]api.Tests{never}, one)}, {row([]api.Tests{wrongTests}, one)}, {row([]api.Tests{always}, test)}, {row([]api.Tests{always}, wrongName)}, {row([]api.Tests{less}, one), row(nil, one)}, {row([]api.Tests{less}, one), row([]api.Tests{less})},
				} {
					all = append(all, api.Logic{Policy: policy, Inputs: inputs, Outputs: outputs, Rules: rules})
				}
			}
		}
	}
	return all
}

// everyNamed are logics of all names and logics.
func everyNamed() []api.Logic {
	var all []api.Logic
	for _, names := range [][]string{nil, {}, {""}, {"a"}, {"a b", ""}, {"", "a"}, {"a", "a"}, {"a", "b"}, {"", ""}, {"a", "b", "a"}, {"a", "a", ""}, {"a", "if", "a"}, {"a", "b", "if"}, {"a", "", "b"}, {"\xff"}} {
		for _, l := range [][]api.Logic{nil, {lit(one)}, {{}}, {lit(one), lit(a)}, {lit(one), {Kind: 4}}, {lit(wrongUtf), {Kind: 4}}, {table(), bare("ANY"), bare("any")}, {lit(one), lit(one), context(nil, lit(wrongName))}, {lit(one), lit(one), lit(one)}} {
			all = append(all, api.Logic{Names: names, L: l})
		}
	}
	return all
}

// P15.1: of every kind all that its fields may have, right and wrong.
func TestEveryShape(t *testing.T) {
	kinds := []int{-1, 0, 1, 2, 3, 4}
	exprs := []api.Expr{{}, one, a, wrongName, test, wrongKind, list(), {Names: []string{"a"}}, {L: []api.Expr{one}}, {Names: []string{}, L: []api.Expr{}}}
	few := []api.Logic{{}, {Names: []string{"p"}}, {L: []api.Logic{lit(one)}}, {Names: []string{"p"}, L: []api.Logic{lit(one)}}}
	told := map[int]map[api.Errno]int{}
	tell := func(l api.Logic) {
		holdCheck(t, l)
		if told[l.Kind] == nil {
			told[l.Kind] = map[api.Errno]int{}
		}
		told[l.Kind][logic.Check(l)]++
	}
	combined(kinds, exprs, everyTable(), few, tell)
	combined(kinds, exprs, []api.Logic{{}, bare("ANY"), {Inputs: []api.Expr{one}}, {Rules: []api.Rule{{}}}, {Outputs: []string{"o"}}}, everyNamed(), tell)
	for kind, want := range [][]api.Errno{
		{api.OK, api.ErrForm, api.ErrName, api.ErrArg},
		{api.OK, api.ErrForm, api.ErrName, api.ErrTwice, api.ErrUtf},
		{api.OK, api.ErrForm, api.ErrName, api.ErrTwice, api.ErrArg, api.ErrUtf},
		{api.OK, api.ErrForm, api.ErrName, api.ErrTwice, api.ErrArg, api.ErrUtf},
	} {
		for _, e := range want {
			if told[kind][e] == 0 {
				t.Errorf("kind %d: %d was never told", kind, e)
			}
		}
	}
}

// P15.1: the sentences of the chapter, one by one.
func TestCheck(t *testing.T) {
	for _, l := range rightLogics() {
		if e := logic.Check(l); e != api.OK {
			t.Errorf("Check(%s): %d", shown(l), e)
		}
	}
	for _, l := range wrongLogics() {
		if e := logic.Check(l); e == api.OK || e != toldCheck(l) {
			t.Errorf("Check(%s): %d", shown(l), e)
		}
	}
	for _, c := range []struct {
		l    api.Logic
		want api.Errno
	}{
		{context([]string{"a", ""}, lit(one), lit(one)), api.OK},
		{context([]string{"", ""}, lit(one), lit(one)), api.ErrName},
		{context([]string{"a", "", "b"}, lit(one), lit(one), lit(one)), api.ErrName},
		{context([]string{"a", "a", ""}, lit(one), lit(one), lit(one)), api.ErrTwice},
		{context([]string{"a", "b", "a"}, lit(one), lit(one), lit(one)), api.ErrTwice},
		{context([]string{"a", "a", "if"}, lit(one), lit(one), lit(one)), api.ErrName},
		{context([]string{"a", "a"}, lit(wrongKind), api.Logic{Kind: 9}), api.ErrTwice},
		{invoke("f", []string{"p", ""}, lit(one), lit(one)), api.ErrName},
		{invoke("f", []string{"p", "p"}, lit(one), lit(one)), api.ErrTwice},
		{invoke("f", nil, lit(one)), api.ErrForm},
		{invoke("if", []string{"p", "p"}, lit(one), lit(one)), api.ErrTwice},
		{invoke("if", []string{"p"}, api.Logic{Kind: 9}), api.ErrName},
		{api.Logic{Kind: 3}, api.ErrForm},
		{api.Logic{Kind: 3, Expr: of(3, "f", one)}, api.ErrForm},
		{api.Logic{Kind: 3, Expr: one, Names: []string{"if"}, L: []api.Logic{lit(one)}}, api.ErrForm},
		{api.Logic{Kind: 3, Expr: test, Names: []string{"p", "p"}, L: []api.Logic{lit(one), lit(one)}}, api.ErrForm},
		// A test is told as such behind what is wrong with it as an expression.
		{lit(of(api.TestExpr, "<", wrongName)), api.ErrName},
		{lit(of(api.TestExpr, "<", of(api.TestExpr, "<", one))), api.ErrForm},
		{lit(chain(199, one)), api.OK},
		{lit(chain(200, one)), api.ErrDeep},
		{context(nil, lit(chain(200, one)), api.Logic{Kind: 9}), api.ErrForm},
		{context([]string{"x"}, lit(chain(200, one)), api.Logic{Kind: 9}), api.ErrDeep},
		{lit(of(api.InExpr, "", a, test)), api.OK},
		{lit(list(test)), api.ErrForm},
		{api.Logic{Kind: 1, Policy: "ANY", Inputs: []api.Expr{a}, Outputs: []string{"o"}}, api.OK},
		{api.Logic{Kind: 1, Policy: "ANY", Inputs: []api.Expr{test}, Outputs: []string{"o"}}, api.ErrForm},
		{api.Logic{Kind: 1, Policy: "ANY", Inputs: []api.Expr{of(api.TestExpr, "<", wrongName)}, Outputs: []string{"o"}}, api.ErrName},
		{api.Logic{Kind: 1, Policy: "ANY", Inputs: []api.Expr{{}}, Outputs: []string{"o"}}, api.ErrForm},
		{api.Logic{Kind: 1, Policy: "ANY", Inputs: []api.Expr{wrongKind}, Outputs: []string{"o", "o", "if"}}, api.ErrName},
		{api.Logic{Kind: 1, Policy: "ANY", Inputs: []api.Expr{wrongKind}, Outputs: []string{"o", "o"}}, api.ErrTwice},
		{api.Logic{Kind: 1, Policy: "any", Outputs: []string{"if"}}, api.ErrForm},
		{api.Logic{Kind: 1, Policy: "ANY", Outputs: []string{""}}, api.ErrName},
		{api.Logic{Kind: 1, Policy: "ANY", Outputs: []string{"o"}, Names: []string{"if"}}, api.ErrForm},
		{api.Logic{Kind: 1, Policy: "ANY", Outputs: []string{"o"}, L: []api.Logic{lit(one)}}, api.ErrForm},
		{api.Logic{Kind: 1, Policy: "ANY", Outputs: []string{"if"}, Expr: one}, api.ErrForm},
		{api.Logic{Kind: 1, Policy: "ANY", Outputs: []string{"o"}, Expr: api.Expr{Names: []string{}, L: []api.Expr{}}, Names: []string{}, L: []api.Logic{}}, api.OK},
	} {
		if e := logic.Check(c.l); e != c.want {
			t.Errorf("Check(%s): %d, want %d", shown(c.l), e, c.want)
		}
		holdCheck(t, c.l)
	}
}

// faulty are tables, each with one fault, in the order in which the faults are told; the error is that of the expression, but of rules with another number of things.
func faulty(wrong api.Expr) []func(l *api.Logic) {
	all := []func(l *api.Logic){
		func(l *api.Logic) { l.Inputs[0] = wrong },
		func(l *api.Logic) { l.Inputs[1] = wrong },
	}
	for i := range table().Rules {
		all = append(all,
			func(l *api.Logic) { l.Rules[i].In[0] = tests(one, wrong) },
			func(l *api.Logic) { l.Rules[i].In[1] = tests(wrong) },
			func(l *api.Logic) { l.Rules[i].Out[0] = wrong },
			func(l *api.Logic) { l.Rules[i].Out[1] = wrong },
		)
	}
	return all
}

// P15.1: of two faults of a table that is told which is ahead: Inputs, then rule by rule.
func TestTableInOrder(t *testing.T) {
	first, second := faulty(wrongKind), faulty(wrongUtf)
	for i := range first {
		for k := i; k < len(second); k++ {
			l := table()
			second[k](&l)
			want := api.ErrUtf
			if e := logic.Check(l); e != want {
				t.Errorf("Check(%s): %d, want %d", shown(l), e, want)
			}
			first[i](&l)
			want = api.ErrArg
			if e := logic.Check(l); e != want {
				t.Errorf("Check(%s): %d, want %d", shown(l), e, want)
			}
			holdCheck(t, l)
		}
	}
}

// P15.1: a rule's number of things is asked ahead of what they are, and behind all rules ahead of it.
func TestRuleCounts(t *testing.T) {
	counts := []func(r *api.Rule){
		func(r *api.Rule) { r.In = r.In[1:] },
		func(r *api.Rule) { r.In = append(r.In, always) },
		func(r *api.Rule) { r.In = nil },
		func(r *api.Rule) { r.Out = r.Out[1:] },
		func(r *api.Rule) { r.Out = append(r.Out, one) },
		func(r *api.Rule) { r.Out = nil },
		func(r *api.Rule) { *r = api.Rule{} },
		func(r *api.Rule) { r.In, r.Out = r.In[1:], append(r.Out, one) },
	}
	for _, count := range counts {
		for rule := range 3 {
			for at, fault := range faulty(wrongUtf) {
				l := table()
				fault(&l)
				count(&l.Rules[rule])
				want := api.ErrForm
				if at < 2+4*rule {
					want = api.ErrUtf
				}
				if e := logic.Check(l); e != want {
					t.Errorf("Check(%s): %d, want %d", shown(l), e, want)
				}
				holdCheck(t, l)
			}
		}
	}
}

// P15.1: a logic goes ahead of its L, and an L ahead of those behind it.
func TestFirstFault(t *testing.T) {
	for _, x := range wrongLogics() {
		first := logic.Check(x)
		for _, y := range wrongLogics() {
			for _, l := range []api.Logic{
				context([]string{"x"}, x, y), context([]string{"x", "y"}, x, y), invoke("f", []string{"x", "y"}, x, y),
				context([]string{"x", "y", "z"}, lit(one), x, y), context([]string{"x"}, context(nil, x), y), invoke("f", []string{"p", "q"}, context([]string{"x", "y"}, lit(one), invoke("g", []string{"p"}, x)), y),
			} {
				if e := logic.Check(l); e != first {
					t.Errorf("Check(%s): %d, want %d", shown(l), e, first)
				}
			}
			around := x
			around.L = []api.Logic{y}
			holdCheck(t, around)
			around.L = []api.Logic{y, y}
			holdCheck(t, around)
		}
		for _, y := range rightLogics() {
			for _, l := range []api.Logic{context([]string{"x"}, y, x), context([]string{"x", "y"}, y, x), invoke("f", []string{"x", "y", "z"}, y, x, y)} {
				if e := logic.Check(l); e != first {
					t.Errorf("Check(%s): %d, want %d", shown(l), e, first)
				}
			}
		}
	}
}

// nested is a logic within so many others.
func nested(n int, l api.Logic) api.Logic {
	for i := range n {
		switch i % 4 {
		case 0:
			l = context([]string{"k"}, l)
		case 1:
			l = invoke("f", []string{"p"}, l)
		case 2:
			l = context([]string{"k", "m", ""}, lit(one), l, lit(one))
		case 3:
			l = invoke("f", []string{"p", "q"}, lit(one), l)
		}
	}
	return l
}

// P15.1, P15.2: depth, up to the limit and beyond; that goes ahead of all else.
func TestDeep(t *testing.T) {
	for _, n := range []int{0, 1, 2, 15, 27, 28, 29, 30, 31, 32, 40} {
		for _, l := range append(rightLogics(), wrongLogics()...) {
			x := nested(n, l)
			holdDepth(t, x)
			holdCheck(t, x)
			want := logic.Check(l)
			if toldDepth(l)+n > api.MaxLogic {
				want = api.ErrDeep
			}
			if e := logic.Check(x); e != want {
				t.Errorf("Check(%s): %d, want %d", shown(x), e, want)
			}
			for _, around := range []api.Logic{{Kind: 4}, {}, {Kind: 1}, {Kind: 2}, {Kind: 3, Expr: wrongName, Names: []string{"if"}}, lit(wrongUtf)} {
				around.L = []api.Logic{lit(one), x, {Kind: 4}}
				holdDepth(t, around)
				holdCheck(t, around)
			}
		}
	}
	if logic.Depth(lit(chain(9, one))) != 1 || logic.Depth(table()) != 1 || logic.Depth(context(nil, lit(one))) != 2 || logic.Depth(api.Logic{}) != 1 {
		t.Error("Depth")
	}
	for _, n := range []int{29, 30} {
		want := []api.Errno{api.OK, api.ErrDeep}[n-29]
		if e := logic.Check(nested(n, lit(one))); e != want || logic.Depth(nested(n, lit(one))) != n+1 {
			t.Errorf("%d deep: %d, want %d", n+1, e, want)
		}
	}
}

// P15.2: two logics are the same just if all is: each thing of each logic is changed, one by one.
func TestSame(t *testing.T) {
	var all []api.Logic
	for _, l := range append(rightLogics(), wrongLogics()...) {
		all = append(all, l)
		for _, change := range changes() {
			x, y := clone(l), context([]string{"x"}, lit(one), clone(l))
			change(&x)
			change(&y.L[1])
			all = append(all, x, y)
		}
	}
	texts := make([]string, len(all))
	for i, x := range all {
		texts[i] = whole(x)
	}
	for i, x := range all {
		if !logic.Same(x, clone(x)) {
			t.Errorf("Same(%s): false", shown(x))
		}
		for k, y := range all {
			if logic.Same(x, y) != (texts[i] == texts[k]) {
				t.Fatalf("Same(%s, %s): %v", shown(x), shown(y), texts[i] != texts[k])
			}
		}
	}
	for i, change := range changes() {
		was := []api.Logic{table(), context([]string{"k", "m"}, table(), lit(a))}
		now := []api.Logic{clone(was[0]), clone(was[1])}
		change(&now[0])
		change(&now[1])
		if logic.Same(now[0], was[0]) && logic.Same(now[1], was[1]) {
			t.Errorf("change %d isn't seen", i)
		}
		holdSame(t, now[0], was[0])
		holdSame(t, now[1], was[1])
	}
}

// P15.2, rule 4: an empty list is the same whether nil or not; things are told apart by where they stand.
func TestSameShapes(t *testing.T) {
	for _, c := range []struct {
		x, y api.Logic
		want bool
	}{
		{api.Logic{}, api.Logic{Inputs: []api.Expr{}, Outputs: []string{}, Rules: []api.Rule{}, Names: []string{}, L: []api.Logic{}}, true},
		{api.Logic{Rules: []api.Rule{{}}}, api.Logic{Rules: []api.Rule{{In: []api.Tests{}, Out: []api.Expr{}}}}, true},
		{api.Logic{Rules: []api.Rule{row([]api.Tests{{}})}}, api.Logic{Rules: []api.Rule{row([]api.Tests{{L: []api.Expr{}}})}}, true},
		{api.Logic{Rules: []api.Rule{{}, row([]api.Tests{less})}}, api.Logic{Rules: []api.Rule{row([]api.Tests{less}), {}}}, false},
		{api.Logic{Rules: []api.Rule{row(nil, one, a)}}, api.Logic{Rules: []api.Rule{row(nil, one), row(nil, a)}}, false},
		{api.Logic{Rules: []api.Rule{row(nil, one)}}, api.Logic{Rules: []api.Rule{row([]api.Tests{tests(one)})}}, false},
		{api.Logic{Outputs: []string{"a"}}, api.Logic{Names: []string{"a"}}, false},
		{api.Logic{Outputs: []string{"a b"}}, api.Logic{Outputs: []string{"a", "b"}}, false},
		{api.Logic{Inputs: []api.Expr{a}}, api.Logic{Expr: a}, false},
		{api.Logic{Inputs: []api.Expr{a, a}}, api.Logic{Inputs: []api.Expr{a}}, false},
		{context(nil, context(nil, lit(a)), lit(b)), context(nil, context(nil, lit(a), lit(b))), false},
		{context(nil, context(nil), lit(a)), context(nil, lit(a), context(nil)), false},
		{context([]string{"a", "b"}, lit(a), lit(b)), context([]string{"b", "a"}, lit(b), lit(a)), false},
		{context([]string{"a"}, lit(a)), lit(a), false},
		{api.Logic{Kind: math.MinInt}, api.Logic{Kind: math.MinInt}, true},
		{api.Logic{Kind: math.MinInt}, api.Logic{Kind: math.MaxInt}, false},
		{api.Logic{Policy: "\xff"}, api.Logic{Policy: "\xff"}, true},
		{api.Logic{Policy: "\xff"}, api.Logic{Policy: "\xfe"}, false},
	} {
		if logic.Same(c.x, c.y) != c.want || logic.Same(c.y, c.x) != c.want {
			t.Errorf("Same(%s, %s): %v", shown(c.x), shown(c.y), !c.want)
		}
	}
}

// P15.1, P15.2: right logics by chance, and with faults by chance, one or two.
func TestByChance(t *testing.T) {
	told := map[api.Errno]int{}
	wrong := wrongLogics()
	exprs := testaid.WrongExprs()
	for seed := range int64(6000) {
		l := anyLogic(rand.New(rand.NewSource(seed)), 5)
		if e := logic.Check(l); e != api.OK {
			t.Fatalf("Check(%s): %d", shown(l), e)
		}
		holdDepth(t, l)
		r := rand.New(rand.NewSource(-seed))
		x := anyLogic(rand.New(rand.NewSource(seed)), 5)
		if !logic.Same(l, x) {
			t.Fatalf("Same(%s), made twice: false", shown(l))
		}
		for range 1 + r.Intn(2) {
			y := pick(r, &x)
			switch r.Intn(4) {
			case 0:
				*y = clone(wrong[r.Intn(len(wrong))])
			case 1:
				y.Expr = exprs[r.Intn(len(exprs))]
			default:
				all := changes()
				all[r.Intn(len(all))](y)
			}
		}
		holdCheck(t, x)
		holdDepth(t, x)
		holdSame(t, l, x)
		told[logic.Check(x)]++
	}
	for _, e := range []api.Errno{api.OK, api.ErrArg, api.ErrForm, api.ErrName, api.ErrTwice} {
		if told[e] < 20 {
			t.Errorf("%d told %d times", e, told[e])
		}
	}
}
