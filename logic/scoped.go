package logic

import (
	"maps"
	"slices"

	"tipstave/api"
	"tipstave/expr"
	"tipstave/scope"
	"tipstave/unary"
)

// scoped tells whether all names are in scope in a logic that isn't too deep.
func scoped(l *api.Logic, names *scope.Scope) api.Errno {
	ask := questions{
		expr:  func(x api.Expr) api.Errno { return expr.Scoped(x, names) },
		tests: func(t api.Tests) api.Errno { return unary.Scoped(t, names) },
	}
	if e := ask.alone(l); e != api.OK {
		return e
	}
	within := names
	for i := range l.L {
		var e api.Errno
		if within, e = within.With(brought(l, i)...); e != api.OK {
			return e
		}
		if e = scoped(&l.L[i], within); e != api.OK {
			return e
		}
	}
	return api.OK
}

// free are the names that must be in scope of a logic that isn't too deep.
func free(l *api.Logic) map[string]bool {
	needed := map[string]bool{}
	// From the last L on, so that what is noted when a name comes into scope is just what stands behind that.
	for i := range slices.Backward(l.L) {
		maps.Copy(needed, free(&l.L[i]))
		for _, name := range brought(l, i) {
			delete(needed, name)
		}
	}
	note := func(x api.Expr) api.Errno {
		for _, name := range expr.Free(x) {
			needed[name] = true
		}
		return api.OK
	}
	questions{note, func(t api.Tests) api.Errno { return first(t.L, note) }}.alone(l)
	return needed
}
