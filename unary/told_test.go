package unary_test

import (
	"slices"
	"strings"

	"tipstave/api"
	"tipstave/expr"
	"tipstave/feelprint"
	"tipstave/scope"
)

// What the calls must answer, by the chapter's sentences; of Parse testaid tells it.

func toldCheck(t api.Tests) api.Errno {
	any := t.Any && !t.Not && len(t.L) == 0
	some := !t.Any && len(t.L) > 0
	if !any && !some {
		return api.ErrForm
	}
	told := api.OK
	for _, x := range slices.Backward(t.L) {
		if e := expr.Check(x); e != api.OK {
			told = e
		}
	}
	return told
}

func toldPrint(t api.Tests) (string, api.Errno) {
	if e := toldCheck(t); e != api.OK {
		return "", e
	}
	if t.Any {
		return "-", api.OK
	}
	var s strings.Builder
	for i, x := range t.L {
		if i > 0 {
			s.WriteString(", ")
		}
		text, _ := feelprint.Print(x)
		s.WriteString(text)
	}
	if t.Not {
		return "not(" + s.String() + ")", api.OK
	}
	return s.String(), api.OK
}

func toldScoped(t api.Tests, names *scope.Scope) api.Errno {
	told := api.OK
	for _, x := range slices.Backward(t.L) {
		if e := expr.Scoped(x, names); e != api.OK {
			told = e
		}
	}
	return told
}

func shown(t api.Tests) string {
	s := whole(t)
	return s[:min(len(s), 300)]
}
