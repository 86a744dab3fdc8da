package feelparse

import "tipstave/api"

// expr reads what begins with a keyword that nests, or else what signs stand in.
func (p *Parser) expr() part {
	t := p.Next()
	if t.Kind == api.Key {
		switch t.S {
		case "if":
			return p.choice()
		case "for":
			return p.bound(api.ForExpr, t.S, "return")
		case "some":
			return p.bound(api.SomeExpr, t.S, "satisfies")
		case "every":
			return p.bound(api.EveryExpr, t.S, "satisfies")
		case "function":
			return p.function()
		}
	}
	return p.or()
}

func (p *Parser) choice() part {
	at := p.enter(api.Key, "if")
	defer p.leave()
	a := p.expr()
	p.need(api.Key, "then")
	b := p.expr()
	p.need(api.Key, "else")
	return p.whole(at, api.Expr{Kind: api.IfExpr}, a, b, p.expr())
}

// bound reads what is asked of a name in all that a list has.
func (p *Parser) bound(kind int, begin, asked string) part {
	at := p.enter(api.Key, begin)
	defer p.leave()
	name := p.words()
	p.need(api.Key, "in")
	list := p.expr()
	p.need(api.Key, asked)
	return p.whole(at, api.Expr{Kind: kind, S: name}, list, p.within(at, name))
}

func (p *Parser) function() part {
	at := p.enter(api.Key, "function")
	defer p.leave()
	names := p.parameters()
	return p.whole(at, api.Expr{Kind: api.FuncExpr, Names: names}, p.within(at, names...))
}

func (p *Parser) parameters() []string {
	p.enter(api.Sign, "(")
	defer p.leave()
	if p.Take(api.Sign, ")") {
		return nil
	}
	taken := map[string]bool{}
	l := []string{p.newName(taken)}
	for p.Take(api.Sign, ",") {
		l = append(l, p.newName(taken))
	}
	p.need(api.Sign, ")")
	return l
}

// within reads a part that has more names in scope than the expression at a place whose part it is.
func (p *Parser) within(at int, more ...string) part {
	defer p.backTo(p.names)
	p.bring(at, more...)
	return p.expr()
}
