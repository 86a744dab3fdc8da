package feelprint

import "tipstave/api"

// The levels.
const (
	loose = iota // if, for, some, every, function
	either
	both
	compared
	summed
	multiplied
	raised
	negated
	tight
	beyond // no expression is of this level
)

// Level is how tightly an expression holds together.
func Level(x api.Expr) int {
	switch x.Kind {
	case api.IfExpr, api.ForExpr, api.SomeExpr, api.EveryExpr, api.FuncExpr:
		return loose
	case api.BinExpr:
		return signLevel(x.S)
	case api.BetweenExpr, api.InExpr, api.TestExpr:
		return compared
	case api.NegExpr:
		return negated
	}
	return tight
}

func signLevel(s string) int {
	switch s {
	case "or":
		return either
	case "and":
		return both
	case "=", "!=", "<", "<=", ">", ">=":
		return compared
	case "+", "-":
		return summed
	case "*", "/":
		return multiplied
	case "**":
		return raised
	}
	return tight
}

// sides are the lowest levels that the two parts of a sign may have without parentheses: of signs in a row the first one binds first, but comparisons stand in no row.
func sides(sign string) (int, int) {
	level := signLevel(sign)
	if level == compared {
		return level + 1, level + 1
	}
	return level, level + 1
}
