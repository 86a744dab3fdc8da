// Package testaid is what the tests of several layers lean on; no layer does.
package testaid

import (
	"slices"
	"strconv"
	"strings"

	"tipstave/api"
)

// EveryRow tells all rows of up to so many of the pieces.
func EveryRow[T any](pieces []T, most int, tell func([]T)) {
	var grow func(row []T)
	grow = func(row []T) {
		tell(row)
		if len(row) == most {
			return
		}
		for _, x := range pieces {
			grow(append(slices.Clip(row), x))
		}
	}
	grow(nil)
}

// EveryText tells all texts of up to so many of the pieces.
func EveryText(pieces []string, most int, tell func(string)) {
	EveryRow(pieces, most, func(row []string) { tell(strings.Join(row, "")) })
}

// Node is all of a node as a text, its place too: {u}a@0[{v}x=1](..) of an element, "t"@3 of a text node, and all that neither has, where it has it.
func Node(n api.Node) string {
	s := ""
	if n.Name != (api.Name{}) {
		s += name(n.Name)
	}
	if n.Text != "" {
		s += strconv.Quote(n.Text)
	}
	s += "@" + strconv.Itoa(n.At)
	var attrs, kids []string
	for _, a := range n.Attrs {
		attrs = append(attrs, name(a.Name)+"="+a.Value)
	}
	for _, k := range n.Kids {
		kids = append(kids, Node(k))
	}
	return s + row("[", attrs, "]") + row("(", kids, ")")
}

// Expr is all of an expression as a text: 5"+"(3"a", 0"1") of a sum, 15""["a"](..) of a function with a name.
func Expr(x api.Expr) string {
	var names, parts []string
	for _, name := range x.Names {
		names = append(names, strconv.Quote(name))
	}
	for _, part := range x.L {
		parts = append(parts, Expr(part))
	}
	return strconv.Itoa(x.Kind) + strconv.Quote(x.S) + row("[", names, "]") + row("(", parts, ")")
}

// Tests is all of some tests as a text.
func Tests(t api.Tests) string {
	s := ""
	if t.Any {
		s += "any "
	}
	if t.Not {
		s += "none of "
	}
	return s + Expr(List(t.L...))
}

func name(n api.Name) string {
	if n.Space == "" {
		return n.Local
	}
	return "{" + n.Space + "}" + n.Local
}

// row is nothing of no pieces.
func row(begin string, pieces []string, end string) string {
	if len(pieces) == 0 {
		return ""
	}
	return begin + strings.Join(pieces, ", ") + end
}
