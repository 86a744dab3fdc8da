package expr_test

import (
	"math"
	"math/rand"
	"runtime/debug"
	"slices"
	"strings"
	"sync"
	"testing"

	"tipstave/api"
	"tipstave/expr"
	"tipstave/number"
	"tipstave/scope"
	"tipstave/testaid"
)

var (
	of, name, num, list   = testaid.Of, testaid.Name, testaid.Num, testaid.List
	function, maps, chain = testaid.Function, testaid.Map, testaid.Chain
	right, faults         = testaid.RightExprs, testaid.WrongExprs
	numbered, shown       = testaid.Numbered, testaid.Shown
)

func scopeOf(t *testing.T, l ...string) *scope.Scope {
	t.Helper()
	s, e := scope.New(l...)
	if e != api.OK {
		t.Fatalf("New(%.80q): %d", l, e)
	}
	return s
}

func holdCheck(t *testing.T, x api.Expr) {
	t.Helper()
	if e, want := expr.Check(x), toldCheck(x); e != want {
		t.Fatalf("Check(%s): %d, want %d", shown(x), e, want)
	}
}

func holdScoped(t *testing.T, x api.Expr, names ...string) {
	t.Helper()
	if e, want := expr.Scoped(x, scopeOf(t, names...)), toldScoped(x, names); e != want {
		t.Fatalf("Scoped(%s) by %.80q: %d, want %d", shown(x), names, e, want)
	}
}

// holdFree holds the free names against the chapter, and that each of them, and no other name, is needed.
func holdFree(t *testing.T, x api.Expr) {
	t.Helper()
	free := expr.Free(x)
	if want := toldFree(x); !slices.Equal(free, want) {
		t.Fatalf("Free(%s): %.80q, want %.80q", shown(x), free, want)
	}
	if e := expr.Scoped(x, scopeOf(t, free...)); e != api.OK {
		t.Fatalf("Scoped(%s) by its free names: %d", shown(x), e)
	}
	for i := range free {
		less := slices.Delete(slices.Clone(free), i, i+1)
		if e := expr.Scoped(x, scopeOf(t, less...)); e != api.ErrScope {
			t.Fatalf("Scoped(%s) without %q: %d", shown(x), free[i], e)
		}
	}
}

func holdSize(t *testing.T, x api.Expr) {
	t.Helper()
	if n, want := expr.Depth(x), toldDepth(x); n != want {
		t.Fatalf("Depth(%s): %d, want %d", shown(x), n, want)
	}
	if n, want := expr.Count(x), toldCount(x); n != want {
		t.Fatalf("Count(%s): %d, want %d", shown(x), n, want)
	}
}

func holdSame(t *testing.T, a, b api.Expr) {
	t.Helper()
	want := toldSame(a, b)
	if expr.Same(a, b) != want || expr.Same(b, a) != want {
		t.Fatalf("Same(%s, %s): %v, want %v", shown(a), shown(b), !want, want)
	}
}

// texts are such as some kind has as its S, and such as none has.
var texts = []string{
	"", "0", "1", "7.5", "1.0", "01", ".5", "0.5", "1.", "-1",
	"true", "false", "null", "True", "a", "a b", "a  b", "if", " a", "\u00e4", "\xff", "\x00", "\ufffd", "\uffff",
	"or", "and", "=", "!=", "<", "<=", ">", ">=", "+", "-", "*", "/", "**", "==", "<>", "xor", "in", "not", "..",
	"[]", "[)", "(]", "()", "][", "[", "]]", "[ ]", "{}", "item",
}

// namings are lists of Names, right and wrong ones.
var namings = [][]string{
	nil, {}, {"a"}, {"a", "b"}, {"a", "a"}, {"a", "b", "a"}, {"a b", "a"}, {""}, {"if"}, {"a", "a", "if"}, {"if", "a", "a"}, {"a", "", "b"}, {"\xff"}, {"item", "k", "m"}, {"a", "b", "c", "d"},
}

// rightParts are rows of right parts.
func rightParts() [][]api.Expr {
	one := num("1")
	return [][]api.Expr{nil, {one}, {one, name("a")}, {one, one, one}, {one, name("a b"), one, of(api.ConstExpr, "null")}}
}

// P10.1: of every kind every number of parts, with every S and all Names.
func TestEveryShape(t *testing.T) {
	for kind := -2; kind <= 22; kind++ {
		for _, s := range texts {
			for _, names := range namings {
				for _, parts := range rightParts() {
					holdCheck(t, api.Expr{Kind: kind, S: s, Names: names, L: parts})
				}
			}
		}
	}
}

// P10.1: kinds that are none.
func TestKinds(t *testing.T) {
	for _, kind := range []int{math.MinInt, -256, -1, 20, 256, 1 << 32, 1<<32 + 1, math.MaxInt} {
		for _, s := range texts {
			for _, x := range []api.Expr{of(kind, s), of(kind, s, num("1")), of(api.NegExpr, "", of(kind, s)), of(api.InExpr, "", num("1"), of(kind, s))} {
				if e := expr.Check(x); e != api.ErrArg {
					t.Errorf("Check(%s): %d", shown(x), e)
				}
			}
		}
	}
}

// P10.1: one of each kind is right, and a test where it may stand alone.
func TestRight(t *testing.T) {
	for kind, x := range right() {
		if e := expr.Check(x); e != api.OK || x.Kind != kind {
			t.Errorf("Check(%s): %d", shown(x), e)
		}
	}
	test := of(api.TestExpr, ">", num("1"))
	for _, x := range right() {
		for i := range x.L {
			y := x
			y.L = slices.Clone(x.L)
			y.L[i] = test
			want := api.ErrForm
			if x.Kind == api.InExpr && i == 1 {
				want = api.OK
			}
			if e := expr.Check(y); e != want {
				t.Errorf("Check(%s): %d, want %d", shown(y), e, want)
			}
			if e := expr.Check(list(y)); e != want && x.Kind != api.TestExpr {
				t.Errorf("Check(%s), in a list: %d, want %d", shown(y), e, want)
			}
		}
	}
}

// P10.1: every short text as the S of each kind that asks one.
func TestEveryText(t *testing.T) {
	one := num("1")
	testaid.EveryText([]string{"0", "1", "9", "."}, 7, func(s string) { holdCheck(t, num(s)) })
	testaid.EveryText([]string{"0", "5", ".", "-", "e", " ", "x"}, 5, func(s string) { holdCheck(t, num(s)) })
	testaid.EveryText([]string{"a", " ", "1", "if", "\u00e4", "\xff", "-", "\t"}, 4, func(s string) {
		for _, x := range []api.Expr{name(s), of(1, s), of(8, s, one), of(12, s, one, one), of(13, s, one, one), of(14, s, one, one), function(one, s), maps([]string{s}, one), function(one, "a", s), maps([]string{s, "a 1"}, one, one)} {
			holdCheck(t, x)
		}
	})
	testaid.EveryText([]string{"<", ">", "=", "!", "+", "-", "*", "/", "(", ")", "[", "]", " ", "and", "or"}, 3, func(s string) {
		for _, x := range []api.Expr{of(5, s, one, one), of(18, s, one, one), of(19, s, one), of(7, "", one, of(19, s, one))} {
			holdCheck(t, x)
		}
	})
	testaid.EveryText([]string{"true", "false", "null", " ", "t", "T", "rue"}, 3, func(s string) { holdCheck(t, of(2, s)) })
}

// P10.1: every byte, and characters that may not be, in a text, wherever.
func TestCharacters(t *testing.T) {
	for c := range 256 {
		b := string([]byte{byte(c)})
		for _, s := range []string{b, b + "x", "x" + b, "\u00e4" + b + "\u00e4"} {
			holdCheck(t, of(1, s))
			holdCheck(t, name(s))
		}
	}
	for _, c := range []struct {
		s    string
		want api.Errno
	}{{"\ufffd", api.OK}, {"\uffff", api.ErrUtf}, {"\U0010ffff", api.OK}, {"\x00", api.ErrUtf}, {"\xed\xa0\x80", api.ErrUtf}, {"\xc0\x80", api.ErrUtf}, {"\"\\\t\n\r", api.OK}, {strings.Repeat("\u00e4", 1<<20), api.OK}, {strings.Repeat("\u00e4", 1<<20) + "\xc3", api.ErrUtf}} {
		if e := expr.Check(of(1, c.s)); e != c.want {
			t.Errorf("%.20q: %d, want %d", c.s, e, c.want)
		}
	}
}

// P10.1: the texts of all numbers' one forms are right, the longest too, and no longer ones.
func TestLongNumbers(t *testing.T) {
	nines := func(n int) string { return strings.Repeat("9", n) }
	zeros := func(n int) string { return strings.Repeat("0", n) }
	for _, n := range []int{1, 2, 998, 999, 1000} {
		for _, scale := range []int{0, 1, n - 1, n, 998, 999, 1000} {
			s, e := number.Text(api.Number{Digits: nines(n), Scale: scale})
			if f := expr.Check(num(s)); e != api.OK || f != api.OK {
				t.Errorf("%d digits, scale %d: %d, %d", n, scale, e, f)
			}
			holdCheck(t, num(s))
			for _, wrong := range []string{"0" + s, s + "0", s + ".0", "-" + s, " " + s, s + ".", "." + s} {
				holdCheck(t, num(wrong))
			}
		}
	}
	for _, s := range []string{nines(1001), "1" + zeros(1000), "0." + nines(1001), "0." + zeros(1000) + "1", "1." + nines(1000), nines(500) + "." + nines(501), "." + nines(1000), "00." + nines(1000), nines(1 << 20), "0." + nines(1<<20), zeros(1 << 20)} {
		if e := expr.Check(num(s)); e != api.ErrForm {
			t.Errorf("%.10q, %d bytes: %d", s, len(s), e)
		}
		holdCheck(t, num(s))
	}
	for _, s := range []string{nines(1000), "1" + zeros(999), nines(999) + ".9", "9." + nines(999), "0." + nines(1000), "0." + zeros(999) + "1"} {
		if e := expr.Check(num(s)); e != api.OK {
			t.Errorf("%.10q, %d bytes: %d", s, len(s), e)
		}
	}
}

// P10.1: of two faults that is told which stands ahead, an expression ahead of its parts.
func TestFirstFault(t *testing.T) {
	one := num("1")
	for _, a := range faults() {
		first := expr.Check(a)
		if first == api.OK {
			t.Errorf("Check(%s): OK", shown(a))
		}
		for _, b := range faults() {
			for _, x := range []api.Expr{list(a, b), list(one, list(a), b), list(list(one, list(one, a)), b), of(5, "*", list(list(a)), b), of(11, "", one, list(a), b), maps([]string{"k", "m"}, a, b), of(7, "", list(a), b), list(of(7, "", one, a), b)} {
				if e := expr.Check(x); e != first && a.Kind != api.TestExpr {
					t.Errorf("Check(%s): %d, want %d", shown(x), e, first)
				}
				holdCheck(t, x)
			}
			// A fault of the expression goes ahead of all of its parts'.
			around := a
			around.L = []api.Expr{b, b}
			holdCheck(t, around)
			around.L = []api.Expr{b}
			holdCheck(t, around)
		}
	}
}

// P10.1: what is wrong by more than one thing is told by the first of them.
func TestOrder(t *testing.T) {
	one := num("1")
	deep := func(x api.Expr) api.Expr { return chain(200, x) }
	for _, c := range []struct {
		x    api.Expr
		want api.Errno
	}{
		{api.Expr{Kind: 20, S: "\xff", Names: []string{"if", "if"}}, api.ErrArg},
		{deep(of(20, "")), api.ErrDeep},
		{list(of(20, ""), deep(one)), api.ErrDeep},
		{of(20, "", deep(one)), api.ErrDeep},
		{of(1, "\xff", deep(one)), api.ErrDeep},
		{of(1, "\xff", one), api.ErrForm},
		{api.Expr{Kind: 1, S: "\xff", Names: []string{"a"}}, api.ErrForm},
		{name(""), api.ErrName},
		{of(3, "", one), api.ErrForm},
		{api.Expr{Kind: 3, S: "if", Names: []string{"a"}}, api.ErrForm},
		{of(12, "if", one), api.ErrForm},
		{of(12, "if", of(20, ""), one), api.ErrName},
		{function(one, "a", "a", "if"), api.ErrName},
		{function(of(20, ""), "a", "a"), api.ErrTwice},
		{maps([]string{"a", "a", "if"}, one, one), api.ErrForm},
		{maps([]string{"a", "a", "if"}, one, one, of(20, "")), api.ErrName},
		{api.Expr{Kind: 15, S: "x", Names: []string{"a", "a"}, L: []api.Expr{one}}, api.ErrForm},
		{list(api.Expr{Kind: 19, S: "<", Names: []string{"if", "if"}, L: []api.Expr{of(20, "")}}), api.ErrForm},
		{of(19, "<", of(19, "<", one)), api.ErrForm},
		{of(7, "", one, of(19, "<", of(19, "<", one))), api.ErrForm},
		{of(7, "", one, list(of(19, "<", one))), api.ErrForm},
		{list(one, of(20, ""), of(1, "\xff")), api.ErrArg},
		{list(of(1, "\xff"), of(20, "")), api.ErrUtf},
	} {
		if e := expr.Check(c.x); e != c.want {
			t.Errorf("Check(%s): %d, want %d", shown(c.x), e, c.want)
		}
		holdCheck(t, c.x)
	}
}

// P10.1, P10.3: depth, up to the limit and beyond, by whichever part of each kind.
func TestDeep(t *testing.T) {
	for n := 196; n <= 204; n++ {
		want := api.OK
		if n > api.MaxDepth {
			want = api.ErrDeep
		}
		for _, x := range right() {
			for i := range x.L {
				y := x
				y.L = slices.Clone(x.L)
				y.L[i] = chain(n-2, num("1"))
				if e := expr.Check(y); e != want || expr.Depth(y) != n {
					t.Fatalf("Check of kind %d, part %d deep %d: %d, want %d", y.Kind, i, expr.Depth(y), e, want)
				}
				holdSize(t, y)
				holdCheck(t, list(num("1"), y, num("1")))
			}
		}
		wide := list(slices.Repeat([]api.Expr{chain(n-2, num("1"))}, 20)...)
		if e := expr.Check(wide); e != want || expr.Depth(wide) != n || expr.Count(wide) != 1+20*(n-1) {
			t.Errorf("wide, %d deep: %d", n, e)
		}
	}
}

// anyExpr is an expression by chance, right but where it isn't, no deeper than told.
func anyExpr(r *rand.Rand, deep int) api.Expr {
	if r.Intn(60) == 0 {
		all := faults()
		return all[r.Intn(len(all))]
	}
	return testaid.AnyExpr(r.Intn, deep, func(deep int) api.Expr { return anyExpr(r, deep) })
}

func anyName(r *rand.Rand) string {
	l := []string{"a", "b", "c", "a b", "item", "\u00e4"}
	return l[r.Intn(len(l))]
}

// noFault is a right expression by chance.
func noFault(r *rand.Rand, deep int) api.Expr {
	return testaid.AnyExpr(r.Intn, deep, func(deep int) api.Expr { return noFault(r, deep) })
}

// P10.1, P10.3: expressions by chance, with faults by chance.
func TestByChance(t *testing.T) {
	r := rand.New(rand.NewSource(1))
	told := map[api.Errno]int{}
	for range 15000 {
		x := anyExpr(r, 7)
		holdCheck(t, x)
		holdSize(t, x)
		told[expr.Check(x)]++
	}
	for _, e := range []api.Errno{api.OK, api.ErrArg, api.ErrForm, api.ErrName, api.ErrTwice, api.ErrUtf} {
		if told[e] < 50 {
			t.Errorf("%d told %d times", e, told[e])
		}
	}
}

// P10.2: right expressions by chance, in scopes by chance.
func TestScopedByChance(t *testing.T) {
	r := rand.New(rand.NewSource(2))
	told := map[api.Errno]int{}
	for range 20000 {
		x := noFault(r, 6)
		if e := expr.Check(x); e != api.OK {
			t.Fatalf("Check(%s): %d", shown(x), e)
		}
		holdFree(t, x)
		var names []string
		for range r.Intn(8) {
			names = append(names, anyName(r))
		}
		holdScoped(t, x, names...)
		told[expr.Scoped(x, scopeOf(t, names...))]++
	}
	if told[api.OK] < 1000 || told[api.ErrScope] < 1000 {
		t.Error(told)
	}
}

// leaves are what each part is made of where all expressions of a kind are gone through.
func leaves() []api.Expr {
	return []api.Expr{num("1"), name("a"), name("b"), name("item"), list(name("a"), name("b"))}
}

// withParts tells an expression with all rows of leaves as its parts.
func withParts(x api.Expr, tell func(api.Expr)) {
	testaid.EveryRow(leaves(), len(x.L), func(l []api.Expr) {
		if len(l) == len(x.L) {
			x.L = slices.Clone(l)
			tell(x)
		}
	})
}

// P10.2: of every kind every row of parts, alone, and where a name is brought by what is around it and asked behind it, too.
func TestScopedEveryKind(t *testing.T) {
	for _, x := range right() {
		switch x.Kind {
		case api.NumExpr, api.StrExpr, api.ConstExpr, api.NameExpr:
		case api.PathExpr, api.ForExpr, api.SomeExpr, api.EveryExpr:
			x.S = "a"
		case api.FuncExpr:
			x.Names = []string{"b", "a"}
		case api.MapExpr:
			x.Names, x.L = []string{"a", "b", "item"}, make([]api.Expr, 3)
		}
		withParts(x, func(x api.Expr) {
			if x.Kind == api.TestExpr {
				x = of(api.InExpr, "", num("1"), x)
			}
			for _, y := range []api.Expr{x, list(x, name("a"), name("b"), name("item")), of(12, "a", x, x), function(list(x, name("a")), "a"), of(9, "", x, x), maps([]string{"b", "c"}, x, x)} {
				holdFree(t, y)
				holdScoped(t, y)
				holdScoped(t, y, "a")
				holdScoped(t, y, "b", "item")
			}
		})
	}
}

// P10.2: a name that is brought twice stays in scope till the outer one of the two is left, and what is left is left.
func TestBroughtTwice(t *testing.T) {
	a := name("a")
	for _, c := range []struct {
		x    api.Expr
		free []string
	}{
		{function(list(function(a, "a"), a), "a"), nil},
		{list(function(list(function(a, "a"), a), "a"), a), []string{"a"}},
		{of(12, "a", of(12, "a", num("1"), a), list(of(13, "a", a, a), a)), nil},
		{of(12, "a", of(12, "a", a, a), a), []string{"a"}},
		{list(of(12, "a", num("1"), a), a), []string{"a"}},
		{list(of(9, "", num("1"), name("item")), name("item")), []string{"item"}},
		{of(9, "", of(9, "", num("1"), name("item")), list(of(9, "", name("item"), name("item")), name("item"))), nil},
		{maps([]string{"a", "b", "c"}, maps([]string{"a", "b"}, num("1"), a), a, name("b")), nil},
		{maps([]string{"a", "b"}, a, a), []string{"a"}},
		{maps([]string{"b", "a"}, num("1"), list(a, name("b"))), []string{"a"}},
		{list(maps([]string{"a", "b"}, num("1"), a), a, name("b")), []string{"a", "b"}},
		{of(8, "a", name("b")), []string{"b"}},
		{of(10, "", name("f"), name("x")), []string{"f", "x"}},
		{of(12, "a b", a, name("a b")), []string{"a"}},
		{list(name("b"), name("B"), name("\u00e4"), name("a b"), name("a"), name("b"), name("_")), []string{"B", "_", "a", "a b", "b", "\u00e4"}},
		{maps(nil), nil},
		{list(), nil},
	} {
		if got := expr.Free(c.x); !slices.Equal(got, c.free) {
			t.Errorf("Free(%s): %q, want %q", shown(c.x), got, c.free)
		}
		holdFree(t, c.x)
	}
}

// P10.2: the chapter's examples.
func TestExamples(t *testing.T) {
	x := of(12, "x", name("a"), of(5, "+", name("x"), name("y")))
	if got := expr.Free(x); !slices.Equal(got, []string{"a", "y"}) {
		t.Errorf("Free(%s): %q", shown(x), got)
	}
	x = maps([]string{"k", "m"}, num("1"), name("k"))
	if got := expr.Free(x); len(got) != 0 || expr.Scoped(x, nil) != api.OK {
		t.Errorf("Free(%s): %q", shown(x), got)
	}
}

// P10.2: a nil scope is one without names.
func TestNilScope(t *testing.T) {
	for _, s := range []*scope.Scope{nil, scopeOf(t)} {
		for _, x := range right() {
			want := toldScoped(x, nil)
			if e := expr.Scoped(x, s); e != want {
				t.Errorf("Scoped(%s): %d, want %d", shown(x), e, want)
			}
		}
		if e := expr.Scoped(function(name("a"), "a"), s); e != api.OK {
			t.Error(e)
		}
	}
}

// P10.2: as many names as a scope may have, and one more, by each kind that brings some.
func TestScopeLimit(t *testing.T) {
	all := numbered("n", api.MaxScope)
	full, almost := scopeOf(t, all...), scopeOf(t, all[1:]...)
	one := num("1")
	for _, c := range []struct {
		x            api.Expr
		almost, full api.Errno
	}{
		{of(12, "a", one, name("a")), api.OK, api.ErrLong},
		{of(13, "a", one, one), api.OK, api.ErrLong},
		{of(14, "a", one, one), api.OK, api.ErrLong},
		{of(12, "n7", one, one), api.OK, api.OK},
		{of(12, "n0", one, one), api.OK, api.OK},
		{of(9, "", one, one), api.OK, api.ErrLong},
		{function(one, "a"), api.OK, api.ErrLong},
		{function(one), api.OK, api.OK},
		{function(one, "a", "b"), api.ErrLong, api.ErrLong},
		{function(one, "n0", "n1", "n2"), api.OK, api.OK},
		{maps([]string{"a"}, one), api.OK, api.OK},
		{maps([]string{"a", "b"}, one, one), api.OK, api.ErrLong},
		{maps([]string{"a", "b", "c"}, one, one, one), api.ErrLong, api.ErrLong},
		{maps([]string{"n1", "n2", "b"}, one, one, one), api.OK, api.OK},
		{function(function(function(one, "a"), "a"), "a"), api.OK, api.ErrLong},
		{function(function(one, "b"), "a"), api.ErrLong, api.ErrLong},
		{function(of(9, "", one, one), "a"), api.ErrLong, api.ErrLong},
		{of(9, "", of(9, "", one, one), of(9, "", one, one)), api.OK, api.ErrLong},
		{list(function(one, "a"), function(one, "b"), of(12, "c", one, one)), api.OK, api.ErrLong},
		{list(of(12, "a", function(one, "b"), function(one, "a"))), api.OK, api.ErrLong},
		{list(of(12, "a", function(one, "b"), function(one, "b"))), api.ErrLong, api.ErrLong},
		{of(8, "a", one), api.OK, api.OK},
	} {
		if e := expr.Check(c.x); e != api.OK {
			t.Fatalf("Check(%s): %d", shown(c.x), e)
		}
		if e := expr.Scoped(c.x, almost); e != c.almost {
			t.Errorf("Scoped(%s) by one name less: %d, want %d", shown(c.x), e, c.almost)
		}
		if e := expr.Scoped(c.x, full); e != c.full {
			t.Errorf("Scoped(%s) by all names: %d, want %d", shown(c.x), e, c.full)
		}
	}
}

// P10.2: names by the thousand, brought by one expression.
func TestScopeLimitOfOne(t *testing.T) {
	for n := 4094; n <= 4100; n++ {
		names := numbered("n", n)
		parts := slices.Repeat([]api.Expr{num("1")}, n)
		holdScoped(t, function(num("1"), names...))
		holdScoped(t, function(num("1"), names...), "n1", "a")
		want := api.OK
		if n > api.MaxScope {
			want = api.ErrLong
		}
		if e := expr.Scoped(function(name("n0"), names...), nil); e != want {
			t.Errorf("a function of %d names: %d", n, e)
		}
		want = api.OK
		if n > api.MaxScope+1 { // no part has the last name in scope
			want = api.ErrLong
		}
		if e := expr.Scoped(maps(names, parts...), nil); e != want {
			t.Errorf("a map of %d names: %d", n, e)
		}
		if got := expr.Free(maps(names, parts...)); len(got) != 0 {
			t.Errorf("Free: %.80q", got)
		}
	}
}

// P10.2: of a name that isn't in scope and of a scope that would be too great that is told which is met first.
func TestScopeOrLong(t *testing.T) {
	full := scopeOf(t, numbered("n", api.MaxScope)...)
	bad, long, fine := name("q"), function(num("1"), "a"), name("n3")
	for _, c := range []struct {
		x    api.Expr
		want api.Errno
	}{
		{list(bad, long), api.ErrScope},
		{list(long, bad), api.ErrLong},
		{list(fine, long, bad), api.ErrLong},
		{list(fine, list(fine, bad), long), api.ErrScope},
		{function(bad, "a"), api.ErrLong},
		{of(12, "a", bad, num("1")), api.ErrScope},
		{of(12, "a", fine, bad), api.ErrLong},
		{of(9, "", bad, num("1")), api.ErrScope},
		{of(9, "", fine, bad), api.ErrLong},
		{maps([]string{"a", "b"}, bad, num("1")), api.ErrScope},
		{maps([]string{"a", "b"}, fine, bad), api.ErrLong},
		{maps([]string{"n1", "b"}, fine, bad), api.ErrScope},
	} {
		if e := expr.Scoped(c.x, full); e != c.want {
			t.Errorf("Scoped(%s): %d, want %d", shown(c.x), e, c.want)
		}
	}
}

// P10.2: an expression may have more free names than a scope, of which all are told.
func TestFreeMany(t *testing.T) {
	names := numbered("n", 10000)
	var l []api.Expr
	for _, s := range names {
		l = append(l, name(s), name(s))
	}
	slices.Sort(names)
	if got := expr.Free(list(l...)); !slices.Equal(got, names) {
		t.Errorf("%d names", len(got))
	}
	if got := expr.Free(function(list(l...), names[1:]...)); !slices.Equal(got, names[:1]) {
		t.Errorf("%d names", len(got))
	}
}

// P10.3: two expressions are the same just if all is: each thing of each expression is changed, one by one.
func TestSame(t *testing.T) {
	test := of(7, "", num("1"), of(19, "<", num("2")))
	var all []api.Expr
	for _, x := range append(append(right(), faults()...), test, of(20, ""), of(-5, "x")) {
		all = append(all, changes(x)...)
	}
	for _, a := range all {
		for _, b := range all {
			holdSame(t, a, b)
		}
		holdSame(t, list(num("1"), a), list(num("1"), a))
	}
	for _, x := range right() {
		if !expr.Same(x, x) {
			t.Errorf("Same(%s): false", shown(x))
		}
	}
}

// changes are an expression and such as differ from it by one thing.
func changes(x api.Expr) []api.Expr {
	kind, text, more, fewer, named := x, x, x, x, x
	kind.Kind++
	text.S += "x"
	more.L = append(slices.Clone(x.L), num("1"))
	named.Names = append(slices.Clone(x.Names), "z")
	all := []api.Expr{x, kind, text, more, named, list(x), of(20, "", x, x)}
	if len(x.Names) > 1 {
		turned := x
		turned.Names = slices.Clone(x.Names)
		slices.Reverse(turned.Names)
		all = append(all, turned)
	}
	if len(x.L) > 0 {
		fewer.L = x.L[1:]
		turned, within := x, x
		turned.L, within.L = slices.Clone(x.L), slices.Clone(x.L)
		slices.Reverse(turned.L)
		within.L[len(within.L)-1].S += "y"
		all = append(all, fewer, turned, within)
	}
	return all
}

// P10.3: an empty list is the same whether nil or not; parts are told apart by where they stand.
func TestSameShapes(t *testing.T) {
	a, b := name("a"), name("b")
	for _, c := range []struct {
		a, b api.Expr
		want bool
	}{
		{api.Expr{}, api.Expr{Names: []string{}, L: []api.Expr{}}, true},
		{list(list(), a), list(api.Expr{Kind: 16, L: []api.Expr{}}, a), true},
		{list(list(a), b), list(list(a, b)), false},
		{list(list(a), b), list(a, list(b)), false},
		{list(list(), list(a)), list(list(a), list()), false},
		{list(a, b), list(b, a), false},
		{list(a, a), list(a), false},
		{list(a), a, false},
		{function(a, "a b"), function(a, "a", "b"), false},
		{function(a, "a", ""), function(a, "a"), false},
		{of(50, "\xff"), of(50, "\xff"), true},
		{of(50, "\xff"), of(50, "\xfe"), false},
		{num("1"), num("1.0"), false},
		{of(math.MinInt, ""), of(math.MaxInt, ""), false},
	} {
		if expr.Same(c.a, c.b) != c.want || expr.Same(c.b, c.a) != c.want {
			t.Errorf("Same(%s, %s): %v", shown(c.a), shown(c.b), !c.want)
		}
	}
}

// P10.3: expressions by chance, each with one that has another part somewhere.
func TestSameByChance(t *testing.T) {
	r := rand.New(rand.NewSource(3))
	for seed := range int64(5000) {
		a := noFault(rand.New(rand.NewSource(seed)), 5)
		b := noFault(rand.New(rand.NewSource(seed)), 5)
		if !expr.Same(a, b) {
			t.Fatalf("Same(%s), made twice: false", shown(a))
		}
		x := &b
		for len(x.L) > 0 && r.Intn(5) > 0 {
			x = &x.L[r.Intn(len(x.L))]
		}
		x.S += "z"
		holdSame(t, a, b)
		holdSame(t, a, noFault(r, 5))
	}
}

// P1, P10.3: expressions far deeper than may be; only Depth, Count and Same have an answer to give.
func TestVeryDeep(t *testing.T) {
	const n = 500000
	defer debug.SetMaxStack(debug.SetMaxStack(1 << 24))
	a, b, c := chain(n, num("1")), chain(n, num("1")), chain(n, num("2"))
	if expr.Depth(a) != n+1 || expr.Count(a) != n+1 || !expr.Same(a, b) || expr.Same(a, c) || expr.Same(a, a.L[0]) {
		t.Error(expr.Depth(a), expr.Count(a))
	}
	if e := expr.Check(a); e != api.ErrDeep {
		t.Error(e)
	}
	expr.Scoped(a, nil)
	expr.Free(a)
	bushy := num("1")
	for range 20000 {
		bushy = list(name("a"), bushy, num("1"))
	}
	if expr.Depth(bushy) != 20001 || expr.Count(bushy) != 60001 || expr.Check(bushy) != api.ErrDeep {
		t.Error(expr.Depth(bushy), expr.Count(bushy))
	}
}

// P1: what goes into itself is deeper than may be.
func TestEndless(t *testing.T) {
	for _, n := range []int{1, 2, 5} {
		l := make([]api.Expr, n)
		for i := range l {
			l[i] = list(l...)
			l[i].L = l
		}
		if e := expr.Check(l[0]); e != api.ErrDeep {
			t.Error(e)
		}
		expr.Scoped(l[0], nil)
		expr.Free(l[0])
	}
}

// P10.1, P10.2, P10.3: very wide expressions.
func TestVeryWide(t *testing.T) {
	const n = 300000
	names := numbered("n", n)
	l := make([]api.Expr, n)
	for i := range l {
		l[i] = num("1")
	}
	l[n-1] = name("n5")
	x := maps(names, l...)
	if e := expr.Check(x); e != api.OK {
		t.Error(e)
	}
	if expr.Depth(x) != 2 || expr.Count(x) != n+1 || !expr.Same(x, maps(slices.Clone(names), slices.Clone(l)...)) || len(expr.Free(x)) != 0 {
		t.Error(expr.Depth(x), expr.Count(x), len(expr.Free(x)))
	}
	if e := expr.Scoped(x, nil); e != api.ErrLong {
		t.Error(e)
	}
	if e := expr.Check(function(num("1"), append(slices.Clone(names), "n7")...)); e != api.ErrTwice {
		t.Error(e)
	}
	if e := expr.Check(function(num("1"), append(slices.Clone(names), "n0", "if")...)); e != api.ErrName {
		t.Error(e)
	}
}

// P10.2: of wrong expressions the calls end, whatever is wrong.
func TestScopedOfWrong(t *testing.T) {
	s := scopeOf(t, "a", "item")
	for kind := -2; kind <= 22; kind++ {
		for _, names := range namings {
			for n := range 6 {
				x := api.Expr{Kind: kind, S: "\xff", Names: names, L: slices.Repeat([]api.Expr{name("a"), of(20, "", name("if"))}, n)}
				for _, y := range []api.Expr{x, list(x, x), of(9, "", x)} {
					expr.Scoped(y, s)
					expr.Scoped(y, nil)
					expr.Free(y)
					holdSize(t, y)
				}
			}
		}
	}
}

// What is handed in isn't changed, nor is what lies behind a list's length read or written; what is answered is each call's own.
func TestLists(t *testing.T) {
	names := []string{"a", "b", "a", "if"}
	parts := []api.Expr{num("1"), name("a"), of(20, "\xff"), name("q")}
	x := maps(names[:2], parts[:2]...)
	was := testaid.Expr(maps(names, parts...))
	if expr.Check(x) != api.OK || expr.Scoped(x, nil) != api.OK || len(expr.Free(x)) != 0 || expr.Depth(x) != 2 || expr.Count(x) != 3 {
		t.Errorf("%s: %d %d %q", shown(x), expr.Check(x), expr.Scoped(x, nil), expr.Free(x))
	}
	if !expr.Same(x, maps([]string{"a", "b"}, num("1"), name("a"))) {
		t.Error("Same: false")
	}
	if now := testaid.Expr(maps(names, parts...)); now != was {
		t.Errorf("changed: %s", now)
	}
	y := list(name("b"), name("a"))
	one, two := expr.Free(y), expr.Free(y)
	one[0] = "x"
	if !slices.Equal(two, []string{"a", "b"}) || !slices.Equal(expr.Free(y), two) || y.L[0].S != "b" {
		t.Error(two)
	}
}

// A scope that is handed in stays as it is.
func TestScopeStays(t *testing.T) {
	s := scopeOf(t, "a", "b")
	for _, x := range right() {
		expr.Scoped(x, s)
		expr.Scoped(function(x, "p", "q"), s)
	}
	if got := slices.Collect(s.Names()); !slices.Equal(got, []string{"a", "b"}) {
		t.Error(got)
	}
}

// Many ask of one expression, and of one scope, at a time.
func TestSideBySide(t *testing.T) {
	x := list(right()[:19]...)
	s := scopeOf(t, "a")
	var group sync.WaitGroup
	for range 8 {
		group.Go(func() {
			for range 200 {
				if expr.Check(x) != api.OK || expr.Scoped(x, s) != api.OK || !slices.Equal(expr.Free(x), []string{"a"}) || expr.Depth(x) != 3 || !expr.Same(x, x) {
					t.Errorf("%d %d %q", expr.Check(x), expr.Scoped(x, s), expr.Free(x))
				}
			}
		})
	}
	group.Wait()
}
