package feelparse

import (
	"slices"

	"tipstave/api"
)

// The levels of signs: one of a higher level binds first.
const (
	either = iota + 1
	both
	compared
	summed
	multiplied
	raised
)

func signLevels() map[string]int {
	return map[string]int{
		"or": either, "and": both,
		"=": compared, "!=": compared, "<": compared, "<=": compared, ">": compared, ">=": compared,
		"+": summed, "-": summed, "*": multiplied, "/": multiplied, "**": raised,
	}
}

// level is that of the sign that is ahead: 0, if none is.
func (p *Parser) level() int {
	t := p.Next()
	if t.Kind != api.Sign && t.Kind != api.Key {
		return 0
	}
	return p.levels[t.S]
}

func (p *Parser) or() part    { return p.row(either, p.and) }
func (p *Parser) and() part   { return p.row(both, p.cond) }
func (p *Parser) sum() part   { return p.row(summed, p.term) }
func (p *Parser) term() part  { return p.row(multiplied, p.power) }
func (p *Parser) power() part { return p.row(raised, p.minus) }

// row reads parts with signs of one level between them: the first sign binds first.
func (p *Parser) row(level int, read func() part) part {
	at := p.Next().At
	x := read()
	for p.level() == level {
		x = p.whole(at, api.Expr{Kind: api.BinExpr, S: p.pass().S}, x, read())
	}
	return x
}

// cond reads a comparison, if one stands there: none stands behind another one.
func (p *Parser) cond() part {
	at := p.Next().At
	x := p.sum()
	switch {
	case p.level() == compared:
		return p.whole(at, api.Expr{Kind: api.BinExpr, S: p.pass().S}, x, p.sum())
	case p.Take(api.Key, "between"):
		least := p.sum()
		p.need(api.Key, "and")
		return p.whole(at, api.Expr{Kind: api.BetweenExpr}, x, least, p.sum())
	case p.Take(api.Key, "in"):
		return p.whole(at, api.Expr{Kind: api.InExpr}, x, p.test(p.sum))
	}
	return x
}

func (p *Parser) testOrExpr() part { return p.test(p.expr) }

// test reads a test, or what else may stand there.
func (p *Parser) test(other func() part) part {
	t := p.Next()
	if t.Kind != api.Sign || !slices.Contains([]string{"<", "<=", ">", ">="}, t.S) {
		return other()
	}
	p.pass()
	return p.whole(t.At, api.Expr{Kind: api.TestExpr, S: t.S}, p.sum())
}

// minus goes by a list and no recursion, since there may be more signs in a row than the stack is deep.
func (p *Parser) minus() part {
	var places []int
	for p.aheadIs(api.Sign, "-") {
		places = append(places, p.pass().At)
	}
	x := p.tight()
	for _, at := range slices.Backward(places) {
		x = p.whole(at, api.Expr{Kind: api.NegExpr}, x)
	}
	return x
}
