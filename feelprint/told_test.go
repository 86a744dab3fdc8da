package feelprint_test

import (
	"strings"

	"tipstave/api"
)

// What the calls must answer, by the chapter's sentences and its numbers.

// signs have a BinExpr's level, and the numbers behind its two parts.
var signs = map[string][3]int{
	"or": {1, 1, 2}, "and": {2, 2, 3},
	"=": {3, 4, 4}, "!=": {3, 4, 4}, "<": {3, 4, 4}, "<=": {3, 4, 4}, ">": {3, 4, 4}, ">=": {3, 4, 4},
	"+": {4, 4, 5}, "-": {4, 4, 5}, "*": {5, 5, 6}, "/": {5, 5, 6}, "**": {6, 6, 7},
}

// levels are those of all kinds, in their order, but of the BinExpr.
var levels = [20]int{8, 8, 8, 8, 7, -1, 3, 3, 8, 8, 8, 0, 0, 0, 0, 0, 8, 8, 8, 3}

func toldLevel(x api.Expr) int {
	switch {
	case x.Kind < 0 || x.Kind > 19:
		return 8
	case x.Kind != 5:
		return levels[x.Kind]
	}
	if numbers, known := signs[x.S]; known {
		return numbers[0]
	}
	return 8
}

var quotes = strings.NewReplacer(`"`, `\"`, `\`, `\\`, "\n", `\n`, "\r", `\r`, "\t", `\t`)

// told is the text of a right expression: the bare one, if it is asked for.
func told(x api.Expr, bare bool) string {
	part := func(i, n int) string {
		s := told(x.L[i], bare)
		if bare {
			n = 9
		}
		if toldLevel(x.L[i]) < n {
			return "(" + s + ")"
		}
		return s
	}
	row := func(from int, keys []string) string {
		var l []string
		for i := from; i < len(x.L); i++ {
			key := ""
			if keys != nil {
				key = keys[i] + ": "
			}
			l = append(l, key+part(i, 0))
		}
		return strings.Join(l, ", ")
	}
	switch x.Kind {
	case 1:
		return `"` + quotes.Replace(x.S) + `"`
	case 4:
		return "-" + part(0, 7)
	case 5:
		return part(0, signs[x.S][1]) + " " + x.S + " " + part(1, signs[x.S][2])
	case 6:
		return part(0, 4) + " between " + part(1, 4) + " and " + part(2, 4)
	case 7:
		if x.L[1].Kind == 19 {
			return part(0, 4) + " in " + told(x.L[1], bare)
		}
		return part(0, 4) + " in " + part(1, 4)
	case 8:
		return part(0, 8) + "." + x.S
	case 9:
		return part(0, 8) + "[" + part(1, 0) + "]"
	case 10:
		return part(0, 8) + "(" + row(1, nil) + ")"
	case 11:
		return "if " + part(0, 0) + " then " + part(1, 0) + " else " + part(2, 0)
	case 12:
		return "for " + x.S + " in " + part(0, 0) + " return " + part(1, 0)
	case 13:
		return "some " + x.S + " in " + part(0, 0) + " satisfies " + part(1, 0)
	case 14:
		return "every " + x.S + " in " + part(0, 0) + " satisfies " + part(1, 0)
	case 15:
		return "function(" + strings.Join(x.Names, ", ") + ") " + part(0, 0)
	case 16:
		return "[" + row(0, nil) + "]"
	case 17:
		return "{" + row(0, x.Names) + "}"
	case 18:
		return x.S[:1] + part(0, 0) + ".." + part(1, 0) + x.S[1:]
	case 19:
		return x.S + " " + part(0, 4)
	}
	return x.S
}
