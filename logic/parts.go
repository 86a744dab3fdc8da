package logic

import (
	"iter"
	"slices"

	"tipstave/api"
	"tipstave/expr"
	"tipstave/unary"
)

// all tells a logic and those in it, at any depth, each ahead of its L, and how deep each stands: by a list and no recursion, since logics that are handed in may be deeper than the stack.
func all(l api.Logic) iter.Seq2[int, *api.Logic] {
	return func(yield func(int, *api.Logic) bool) {
		left := [][]api.Logic{{l}} // what is left of each L that is gone through
		for len(left) > 0 {
			last := len(left) - 1
			row := left[last]
			if len(row) == 0 {
				left = left[:last]
				continue
			}
			left[last] = row[1:]
			left = append(left, row[0].L)
			if !yield(last+1, &row[0]) {
				return
			}
		}
	}
}

// tooDeep looks no deeper than need be.
func tooDeep(l api.Logic) bool {
	for deep := range all(l) {
		if deep > api.MaxLogic {
			return true
		}
	}
	return false
}

// exprs are the expressions that stand in a logic itself, but in its rules: no kind has both an Expr and Inputs.
func exprs(l *api.Logic) []api.Expr {
	if l.Kind == api.Literal || l.Kind == api.Invoke {
		return []api.Expr{l.Expr}
	}
	return l.Inputs
}

// brought are the names that come into scope ahead of an L, and stay there up to the last one's end.
func brought(l *api.Logic, i int) []string {
	if l.Kind == api.Context && i > 0 && i <= len(l.Names) { // a wrong one may have fewer
		return l.Names[i-1 : i]
	}
	return nil
}

// first is the first error that a question answers of some things, in order.
func first[T any](l []T, question func(T) api.Errno) api.Errno {
	for _, x := range l {
		if e := question(x); e != api.OK {
			return e
		}
	}
	return api.OK
}

// questions are asked of expressions and tests.
type questions struct {
	expr  func(api.Expr) api.Errno
	tests func(api.Tests) api.Errno
}

func (q questions) rule(r api.Rule) api.Errno {
	if e := first(r.In, q.tests); e != api.OK {
		return e
	}
	return first(r.Out, q.expr)
}

// alone has no look into L.
func (q questions) alone(l *api.Logic) api.Errno {
	if e := first(exprs(l), q.expr); e != api.OK {
		return e
	}
	return first(l.Rules, q.rule)
}

// alike asks whether logics are the same, as far as can be told without a look into their L.
func alike(a, b *api.Logic) bool {
	return a.Kind == b.Kind && a.Policy == b.Policy && len(a.L) == len(b.L) &&
		slices.Equal(a.Outputs, b.Outputs) && slices.Equal(a.Names, b.Names) &&
		expr.Same(a.Expr, b.Expr) && slices.EqualFunc(a.Inputs, b.Inputs, expr.Same) &&
		slices.EqualFunc(a.Rules, b.Rules, sameRule)
}

func sameRule(a, b api.Rule) bool {
	return slices.EqualFunc(a.In, b.In, unary.Same) && slices.EqualFunc(a.Out, b.Out, expr.Same)
}
