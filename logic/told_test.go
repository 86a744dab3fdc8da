package logic_test

import (
	"fmt"
	"regexp"
	"slices"
	"strconv"
	"strings"

	"tipstave/api"
	"tipstave/expr"
	"tipstave/names"
	"tipstave/scope"
	"tipstave/testaid"
	"tipstave/unary"
)

// What the calls must answer, by the chapter's sentences: a logic is laid out as a list of all that are in it, each with where it stands, and each of these is asked by itself.

// Which things, and how many, each kind has: an expression (0 the zero one, n a name), a policy, inputs, outputs, rules, names, logics.
var shapes = []*regexp.Regexp{
	regexp.MustCompile(`^[0nx] "" 0 0 0 0 0$`),
	regexp.MustCompile(`^0 "(ANY|COLLECT|FIRST|OUTPUT ORDER|PRIORITY|RULE ORDER|UNIQUE)" [0-9]+ [1-9][0-9]* [0-9]+ 0 0$`),
	regexp.MustCompile(`^0 "" 0 0 0 [1-9][0-9]* [1-9][0-9]*$`),
	regexp.MustCompile(`^n "" 0 0 0 [0-9]+ [0-9]+$`),
}

func shape(l api.Logic) string {
	x := "x"
	switch {
	case testaid.Expr(l.Expr) == testaid.Expr(api.Expr{}):
		x = "0"
	case l.Expr.Kind == api.NameExpr:
		x = "n"
	}
	return fmt.Sprintf("%s %q %d %d %d %d %d", x, l.Policy, len(l.Inputs), len(l.Outputs), len(l.Rules), len(l.Names), len(l.L))
}

// placed is a logic, how deep it stands, and which names are brought into scope by those around it.
type placed struct {
	l       api.Logic
	deep    int
	brought []string
}

// inList are a logic and those in it, at any depth, each ahead of its L.
func inList(p placed) []placed {
	all := []placed{p}
	for i, x := range p.l.L {
		var more []string
		if p.l.Kind == api.Context {
			more = p.l.Names[:min(i, len(p.l.Names))] // a wrong one may have fewer
		}
		all = append(all, inList(placed{x, p.deep + 1, slices.Concat(p.brought, more)})...)
	}
	return all
}

func toldDepth(l api.Logic) int {
	deepest := 0
	for _, p := range inList(placed{l, 1, nil}) {
		deepest = max(deepest, p.deep)
	}
	return deepest
}

func toldCheck(l api.Logic) api.Errno {
	if toldDepth(l) > 30 {
		return api.ErrDeep
	}
	for _, p := range inList(placed{l, 1, nil}) {
		if e := toldAlone(p.l); e != api.OK {
			return e
		}
	}
	return api.OK
}

// toldAlone is what is wrong with a logic, its L left aside.
func toldAlone(l api.Logic) api.Errno {
	if l.Kind < 0 || l.Kind > 3 {
		return api.ErrArg
	}
	if !shapes[l.Kind].MatchString(shape(l)) || len(l.Names) != len(l.L) {
		return api.ErrForm
	}
	for i, s := range slices.Concat(l.Outputs, l.Names) {
		if !names.Right(s) && !(l.Kind == api.Context && i == len(l.Names)-1 && s == "") {
			return api.ErrName
		}
	}
	for _, some := range [][]string{l.Outputs, l.Names} {
		for i, s := range some {
			if slices.Index(some, s) != i {
				return api.ErrTwice
			}
		}
	}
	return toldThings(l)
}

// toldThings is the first error of what stands in a logic.
func toldThings(l api.Logic) api.Errno {
	var told []api.Errno
	ask := func(x api.Expr) {
		told = append(told, expr.Check(x))
		if x.Kind == api.TestExpr {
			told = append(told, api.ErrForm)
		}
	}
	if l.Kind == api.Literal || l.Kind == api.Invoke {
		ask(l.Expr)
	}
	for _, x := range l.Inputs {
		ask(x)
	}
	for _, r := range l.Rules {
		if len(r.In) != len(l.Inputs) || len(r.Out) != len(l.Outputs) {
			told = append(told, api.ErrForm)
		}
		for _, t := range r.In {
			told = append(told, unary.Check(t))
		}
		for _, x := range r.Out {
			ask(x)
		}
	}
	return firstOf(told)
}

func firstOf(told []api.Errno) api.Errno {
	for _, e := range told {
		if e != api.OK {
			return e
		}
	}
	return api.OK
}

// toldScoped is what Scoped must answer of a right logic, if these names are in scope of it.
func toldScoped(l api.Logic, names []string) api.Errno {
	var told []api.Errno
	for _, p := range inList(placed{l, 1, nil}) {
		s, e := scope.New(slices.Concat(names, p.brought)...)
		told = append(told, e, expr.Scoped(p.l.Expr, s))
		for _, x := range p.l.Inputs {
			told = append(told, expr.Scoped(x, s))
		}
		for _, r := range p.l.Rules {
			for _, t := range r.In {
				told = append(told, unary.Scoped(t, s))
			}
			for _, x := range r.Out {
				told = append(told, expr.Scoped(x, s))
			}
		}
	}
	return firstOf(told)
}

// toldFree are the names of all expressions that aren't brought where they stand.
func toldFree(l api.Logic) []string {
	var needed []string
	for _, p := range inList(placed{l, 1, nil}) {
		there := append(slices.Clone(p.l.Inputs), p.l.Expr)
		for _, r := range p.l.Rules {
			there = append(there, r.Out...)
			for _, t := range r.In {
				there = append(there, t.L...)
			}
		}
		for _, x := range there {
			for _, s := range expr.Free(x) {
				if !slices.Contains(p.brought, s) {
					needed = append(needed, s)
				}
			}
		}
	}
	slices.SortFunc(needed, strings.Compare)
	return slices.Compact(needed)
}

func toldSame(a, b api.Logic) bool { return whole(a) == whole(b) }

// whole is all of a logic as a text.
func whole(l api.Logic) string {
	s := strconv.Itoa(l.Kind) + testaid.Expr(l.Expr) + strconv.Quote(l.Policy) + fmt.Sprintf("%q%q", l.Outputs, l.Names)
	for _, x := range l.Inputs {
		s += " in " + testaid.Expr(x)
	}
	for _, r := range l.Rules {
		s += " rule"
		for _, t := range r.In {
			s += " of " + testaid.Tests(t)
		}
		for _, x := range r.Out {
			s += " out " + testaid.Expr(x)
		}
	}
	for _, x := range l.L {
		s += "{" + whole(x) + "}"
	}
	return s
}

func shown(l api.Logic) string {
	s := whole(l)
	return s[:min(len(s), 400)]
}
