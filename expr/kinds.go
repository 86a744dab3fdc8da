package expr

import (
	"slices"
	"strings"

	"tipstave/api"
	"tipstave/names"
	"tipstave/number"
	"tipstave/utf"
)

// row is what a kind asks of its expressions.
type row struct {
	parts func(parts int) bool        // may there be so many?
	names func(names, parts int) bool // may there be so many Names, beside so many parts?
	text  func(s string) api.Errno    // what is wrong with S
}

type kinds map[int]row

func rows() kinds {
	return kinds{
		api.NumExpr:     {none, unnamed, form},
		api.StrExpr:     {none, unnamed, characters},
		api.ConstExpr:   {none, unnamed, oneOf("true", "false", "null")},
		api.NameExpr:    {none, unnamed, name},
		api.NegExpr:     {one, unnamed, empty},
		api.BinExpr:     {two, unnamed, oneOf("or", "and", "=", "!=", "<", "<=", ">", ">=", "+", "-", "*", "/", "**")},
		api.BetweenExpr: {three, unnamed, empty},
		api.InExpr:      {two, unnamed, empty},
		api.PathExpr:    {one, unnamed, name},
		api.FilterExpr:  {two, unnamed, empty},
		api.CallExpr:    {some, unnamed, empty},
		api.IfExpr:      {three, unnamed, empty},
		api.ForExpr:     {two, unnamed, name},
		api.SomeExpr:    {two, unnamed, name},
		api.EveryExpr:   {two, unnamed, name},
		api.FuncExpr:    {one, named, empty},
		api.ListExpr:    {every, unnamed, empty},
		api.MapExpr:     {every, allNamed, empty},
		api.SpanExpr:    {two, unnamed, oneOf("[]", "[)", "(]", "()")},
		api.TestExpr:    {one, unnamed, oneOf("<", "<=", ">", ">=")},
	}
}

func none(parts int) bool  { return parts == 0 }
func one(parts int) bool   { return parts == 1 }
func two(parts int) bool   { return parts == 2 }
func three(parts int) bool { return parts == 3 }
func some(parts int) bool  { return parts > 0 }
func every(int) bool       { return true }

func unnamed(names, _ int) bool      { return names == 0 }
func named(_, _ int) bool            { return true }
func allNamed(names, parts int) bool { return names == parts }

func empty(s string) api.Errno {
	return unless(s == "", api.ErrForm)
}

func oneOf(l ...string) func(string) api.Errno {
	return func(s string) api.Errno { return unless(slices.Contains(l, s), api.ErrForm) }
}

func name(s string) api.Errno {
	return unless(names.Right(s), api.ErrName)
}

func characters(s string) api.Errno {
	_, e := utf.Check([]byte(s))
	return e
}

// form tells whether a text is that of a number's one form.
func form(s string) api.Errno {
	read := s
	if strings.HasPrefix(s, "0.") {
		// A number may have MaxDigits digits behind the point: with the 0 ahead of it they would be too many to be read.
		read = s[1:]
	}
	n, e := number.Read(read)
	if e != api.OK {
		return api.ErrForm
	}
	text, _ := number.Text(n)
	return unless(text == s, api.ErrForm)
}

func unless(right bool, wrong api.Errno) api.Errno {
	if right {
		return api.OK
	}
	return wrong
}

// check tells what is wrong with an expression that isn't too deep: with itself ahead of its parts.
func (k kinds) check(x *api.Expr, mayBeTest bool) api.Errno {
	if e := k.checkAlone(x, mayBeTest); e != api.OK {
		return e
	}
	for i := range x.L {
		if e := k.check(&x.L[i], x.Kind == api.InExpr && i == 1); e != api.OK {
			return e
		}
	}
	return api.OK
}

// checkAlone has no look into the parts.
func (k kinds) checkAlone(x *api.Expr, mayBeTest bool) api.Errno {
	asked, known := k[x.Kind]
	switch {
	case !known:
		return api.ErrArg
	case !asked.parts(len(x.L)) || !asked.names(len(x.Names), len(x.L)):
		return api.ErrForm
	case x.Kind == api.TestExpr && !mayBeTest:
		return api.ErrForm
	}
	if e := asked.text(x.S); e != api.OK {
		return e
	}
	return checkNames(x.Names)
}

func checkNames(l []string) api.Errno {
	for _, s := range l {
		if e := name(s); e != api.OK {
			return e
		}
	}
	ahead := make(map[string]bool, len(l))
	for _, s := range l {
		if ahead[s] {
			return api.ErrTwice
		}
		ahead[s] = true
	}
	return api.OK
}
