package feelprint

import (
	"strings"

	"tipstave/api"
	"tipstave/expr"
	"tipstave/feellex"
)

// table has what writes an expression, by its Kind.
type table [api.TestExpr + 1]func(*writer, *api.Expr)

func kinds() table {
	return table{
		api.NumExpr:     (*writer).plain,
		api.StrExpr:     (*writer).quoted,
		api.ConstExpr:   (*writer).plain,
		api.NameExpr:    (*writer).plain,
		api.NegExpr:     (*writer).minus,
		api.BinExpr:     (*writer).binary,
		api.BetweenExpr: (*writer).between,
		api.InExpr:      (*writer).in,
		api.PathExpr:    (*writer).path,
		api.FilterExpr:  (*writer).filter,
		api.CallExpr:    (*writer).call,
		api.IfExpr:      (*writer).choice,
		api.ForExpr:     (*writer).each,
		api.SomeExpr:    (*writer).some,
		api.EveryExpr:   (*writer).every,
		api.FuncExpr:    (*writer).function,
		api.ListExpr:    (*writer).list,
		api.MapExpr:     (*writer).entries,
		api.SpanExpr:    (*writer).span,
		api.TestExpr:    (*writer).test,
	}
}

// writer writes right expressions: what is wrong is told ahead of it.
type writer struct {
	text  strings.Builder
	least int // a part of a lower level has parentheses, whatever its place asks
	kinds table
}

func write(x api.Expr, least int) (string, api.Errno) {
	if e := expr.Check(x); e != api.OK {
		return "", e
	}
	w := writer{least: least, kinds: kinds()}
	w.whole(&x)
	return w.text.String(), api.OK
}

func (w *writer) whole(x *api.Expr) { w.kinds[x.Kind](w, x) }

// part writes an expression where a level is asked for.
func (w *writer) part(x *api.Expr, level int) {
	if Level(*x) >= max(level, w.least) {
		w.whole(x)
		return
	}
	w.put("(")
	w.whole(x)
	w.put(")")
}

// row writes expressions that stand one behind the other.
func (w *writer) row(l []api.Expr) {
	for i := range l {
		if i > 0 {
			w.put(", ")
		}
		w.part(&l[i], loose)
	}
}

func (w *writer) put(s string) { w.text.WriteString(s) }

func (w *writer) plain(x *api.Expr) { w.put(x.S) }

func (w *writer) quoted(x *api.Expr) {
	s, _ := feellex.Quote(x.S)
	w.put(s)
}

func (w *writer) minus(x *api.Expr) {
	w.put("-")
	w.part(&x.L[0], negated)
}

func (w *writer) binary(x *api.Expr) {
	first, second := sides(x.S)
	w.part(&x.L[0], first)
	w.put(" " + x.S + " ")
	w.part(&x.L[1], second)
}

func (w *writer) between(x *api.Expr) {
	w.part(&x.L[0], summed)
	w.put(" between ")
	w.part(&x.L[1], summed)
	w.put(" and ")
	w.part(&x.L[2], summed)
}

func (w *writer) in(x *api.Expr) {
	w.part(&x.L[0], summed)
	w.put(" in ")
	if x.L[1].Kind == api.TestExpr {
		w.whole(&x.L[1])
		return
	}
	w.part(&x.L[1], summed)
}

func (w *writer) test(x *api.Expr) {
	w.put(x.S + " ")
	w.part(&x.L[0], summed)
}

func (w *writer) path(x *api.Expr) {
	w.part(&x.L[0], tight)
	w.put("." + x.S)
}

func (w *writer) filter(x *api.Expr) {
	w.part(&x.L[0], tight)
	w.put("[")
	w.part(&x.L[1], loose)
	w.put("]")
}

func (w *writer) call(x *api.Expr) {
	w.part(&x.L[0], tight)
	w.put("(")
	w.row(x.L[1:])
	w.put(")")
}

func (w *writer) choice(x *api.Expr) {
	w.put("if ")
	w.part(&x.L[0], loose)
	w.put(" then ")
	w.part(&x.L[1], loose)
	w.put(" else ")
	w.part(&x.L[2], loose)
}

func (w *writer) each(x *api.Expr)  { w.bound("for ", x, " return ") }
func (w *writer) some(x *api.Expr)  { w.bound("some ", x, " satisfies ") }
func (w *writer) every(x *api.Expr) { w.bound("every ", x, " satisfies ") }

// bound writes what is asked of a name in all that a list has.
func (w *writer) bound(begin string, x *api.Expr, asked string) {
	w.put(begin + x.S + " in ")
	w.part(&x.L[0], loose)
	w.put(asked)
	w.part(&x.L[1], loose)
}

func (w *writer) function(x *api.Expr) {
	w.put("function(" + strings.Join(x.Names, ", ") + ") ")
	w.part(&x.L[0], loose)
}

func (w *writer) list(x *api.Expr) {
	w.put("[")
	w.row(x.L)
	w.put("]")
}

func (w *writer) entries(x *api.Expr) {
	w.put("{")
	for i := range x.L {
		if i > 0 {
			w.put(", ")
		}
		w.put(x.Names[i] + ": ")
		w.part(&x.L[i], loose)
	}
	w.put("}")
}

func (w *writer) span(x *api.Expr) {
	w.put(x.S[:1])
	w.part(&x.L[0], loose)
	w.put("..")
	w.part(&x.L[1], loose)
	w.put(x.S[1:])
}
