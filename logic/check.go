package logic

import (
	"tipstave/api"
	"tipstave/expr"
	"tipstave/names"
	"tipstave/unary"
)

// checkAlone tells what is wrong with a logic, its L left aside.
func checkAlone(l *api.Logic) api.Errno {
	switch {
	case l.Kind < api.Literal || l.Kind > api.Invoke:
		return api.ErrArg
	case !shaped(l):
		return api.ErrForm
	}
	if e := checkNames(asked(l)); e != api.OK {
		return e
	}
	if e := first(exprs(l), checkExpr); e != api.OK {
		return e
	}
	return first(l.Rules, func(r api.Rule) api.Errno { return checkRule(l, r) })
}

// shaped asks whether a logic has what its kind has, as many of each, and nothing else.
func shaped(l *api.Logic) bool {
	if l.Kind == api.Table {
		return len(l.Outputs) > 0 && isPolicy(l.Policy) && isZero(l.Expr) && len(l.Names) == 0 && len(l.L) == 0
	}
	if l.Policy != "" || len(l.Inputs) > 0 || len(l.Outputs) > 0 || len(l.Rules) > 0 || len(l.Names) != len(l.L) {
		return false
	}
	switch l.Kind {
	case api.Context:
		return len(l.L) > 0 && isZero(l.Expr)
	case api.Invoke:
		return l.Expr.Kind == api.NameExpr
	}
	return len(l.L) == 0
}

func isPolicy(s string) bool {
	for policy := range Policies() {
		if policy == s {
			return true
		}
	}
	return false
}

func isZero(x api.Expr) bool { return expr.Same(x, api.Expr{}) }

// asked are those texts in a logic that must be names, none twice.
func asked(l *api.Logic) []string {
	last := len(l.Names) - 1
	switch {
	case l.Kind == api.Table:
		return l.Outputs
	case l.Kind == api.Context && l.Names[last] == "":
		return l.Names[:last]
	}
	return l.Names
}

func checkNames(l []string) api.Errno {
	for _, s := range l {
		if !names.Right(s) {
			return api.ErrName
		}
	}
	ahead := make(map[string]bool, len(l))
	for _, s := range l {
		if ahead[s] {
			return api.ErrTwice
		}
		ahead[s] = true
	}
	return api.OK
}

func checkExpr(x api.Expr) api.Errno {
	if e := expr.Check(x); e != api.OK {
		return e
	}
	if x.Kind == api.TestExpr {
		return api.ErrForm
	}
	return api.OK
}

func checkRule(l *api.Logic, r api.Rule) api.Errno {
	if len(r.In) != len(l.Inputs) || len(r.Out) != len(l.Outputs) {
		return api.ErrForm
	}
	return questions{checkExpr, unary.Check}.rule(r)
}
