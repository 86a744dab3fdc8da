package testaid

import (
	"slices"
	"strconv"

	"tipstave/api"
)

// Of is an expression of a kind.
func Of(kind int, s string, l ...api.Expr) api.Expr { return api.Expr{Kind: kind, S: s, L: l} }

// Name is a NameExpr.
func Name(s string) api.Expr { return Of(api.NameExpr, s) }

// Num is a NumExpr.
func Num(s string) api.Expr { return Of(api.NumExpr, s) }

// List is a ListExpr.
func List(l ...api.Expr) api.Expr { return Of(api.ListExpr, "", l...) }

// Function is a FuncExpr.
func Function(x api.Expr, names ...string) api.Expr {
	return api.Expr{Kind: api.FuncExpr, Names: names, L: []api.Expr{x}}
}

// Map is a MapExpr of names and their parts.
func Map(names []string, l ...api.Expr) api.Expr {
	return api.Expr{Kind: api.MapExpr, Names: names, L: l}
}

// Chain is an expression within so many others, one in the other.
func Chain(n int, x api.Expr) api.Expr {
	for range n {
		x = Of(api.NegExpr, "", x)
	}
	return x
}

// Numbered are so many names that have nothing but their number behind a text.
func Numbered(text string, n int) []string {
	l := make([]string, n)
	for i := range l {
		l[i] = text + strconv.Itoa(i)
	}
	return l
}

// Shown is an expression as a text that isn't too long to be read.
func Shown(x api.Expr) string {
	s := Expr(x)
	return s[:min(len(s), 200)]
}

// RightExprs is a right expression of each kind, in the order of the kinds.
func RightExprs() []api.Expr {
	one, a := Num("1"), Name("a")
	return []api.Expr{
		one, Of(1, "x y\n"), Of(2, "true"), a, Of(4, "", one), Of(5, "+", one, a), Of(6, "", a, one, one), Of(7, "", a, one), Of(8, "net price", a), Of(9, "", a, Name("item")),
		Of(10, "", a, one, one), Of(11, "", a, one, one), Of(12, "x", a, Name("x")), Of(13, "x", a, Name("x")), Of(14, "x", a, Name("x")), Function(Name("p"), "p", "q"),
		List(a, one), Map([]string{"k", "m"}, one, a), Of(18, "(]", one, a), Of(19, "<=", one),
	}
}

// WrongExprs are wrong expressions, one of each error but ErrDeep, and by each thing that is asked.
func WrongExprs() []api.Expr {
	one := Num("1")
	return []api.Expr{
		Of(20, ""), Of(-1, "", one), Num("1.0"), Num(""), Of(0, "1", one), Of(1, "", one), Of(2, "no"), Of(4, "-", one), Of(5, "xor", one, one), Of(11, "", one), List(Of(19, "<", one)), Of(19, "=", one),
		Of(18, "][", one, one), Map([]string{"a"}), {Kind: 16, Names: []string{"a"}}, Name("if"), Of(12, "", one, one), Function(one, "a", "", "a"), Function(one, "a", "a"), Map([]string{"a", "b", "a"}, one, one, one), Of(1, "\xff"),
	}
}

// BinSigns are the signs of a BinExpr.
func BinSigns() []string {
	return []string{"or", "and", "=", "!=", "<", "<=", ">", ">=", "+", "-", "*", "/", "**"}
}

// TestSigns are the signs of a TestExpr.
func TestSigns() []string { return []string{"<", "<=", ">", ">="} }

// SpanSigns are the brackets of a SpanExpr.
func SpanSigns() []string { return []string{"[]", "[)", "(]", "()"} }

// AnyExpr is an expression, no deeper than told, with nothing wrong but what its parts have; pick chooses a number that is less than the one it is told.
func AnyExpr(pick func(int) int, deep int, part func(deep int) api.Expr) api.Expr {
	kind := pick(api.TestExpr)
	if deep <= 1 || pick(4) == 0 {
		kind = oneOf(pick, api.NumExpr, api.StrExpr, api.ConstExpr, api.NameExpr, api.NameExpr, api.NameExpr)
	}
	x := anyAlone(pick, kind)
	for i := range x.L {
		x.L[i] = part(deep - 1)
		if kind == api.InExpr && i == 1 && pick(2) == 0 {
			x.L[i] = Of(api.TestExpr, oneOf(pick, TestSigns()...), x.L[i])
		}
	}
	return x
}

// AnyTests are right tests, if the parts are; pick as in AnyExpr.
func AnyTests(pick func(int) int, part func(deep int) api.Expr) api.Tests {
	var t api.Tests
	for range pick(5) {
		x := part(1 + pick(4))
		if pick(3) == 0 {
			x = Of(api.TestExpr, oneOf(pick, TestSigns()...), x)
		}
		t.L = append(t.L, x)
	}
	t.Any = len(t.L) == 0
	t.Not = !t.Any && pick(3) == 0
	return t
}

// anyAlone is a right expression of a kind, with as many parts as it may have.
func anyAlone(pick func(int) int, kind int) api.Expr {
	x := RightExprs()[kind]
	switch kind {
	case api.NumExpr:
		x.S = oneOf(pick, "0", "1", "2.5", "0.05", "1200")
	case api.ConstExpr:
		x.S = oneOf(pick, "true", "false", "null")
	case api.NameExpr, api.PathExpr, api.ForExpr, api.SomeExpr, api.EveryExpr:
		x.S = oneOf(pick, anyNames()...)
	case api.BinExpr:
		x.S = oneOf(pick, BinSigns()...)
	case api.SpanExpr:
		x.S = oneOf(pick, SpanSigns()...)
	case api.CallExpr:
		x.L = make([]api.Expr, 1+pick(4))
	case api.ListExpr:
		x.L = make([]api.Expr, pick(4))
	case api.FuncExpr, api.MapExpr:
		x.Names = someNames(pick)
	}
	if kind == api.MapExpr {
		x.L = make([]api.Expr, len(x.Names))
	}
	return x
}

func anyNames() []string { return []string{"a", "b", "c", "a b", "item", "\u00e4"} }

// someNames are some names, none twice, in any order.
func someNames(pick func(int) int) []string {
	left := anyNames()
	var l []string
	for range pick(len(left)) {
		i := pick(len(left))
		l = append(l, left[i])
		left = slices.Delete(left, i, i+1)
	}
	return l
}

func oneOf[T any](pick func(int) int, l ...T) T { return l[pick(len(l))] }
