package feelparse

import (
	"tipstave/api"
	"tipstave/number"
)

// tight reads an expression with what hangs on it.
func (p *Parser) tight() part {
	at := p.Next().At
	x := p.first()
	for {
		switch {
		case p.Take(api.Sign, "."):
			x = p.whole(at, api.Expr{Kind: api.PathExpr, S: p.words()}, x)
		case p.aheadIs(api.Sign, "["):
			x = p.filter(at, x)
		case p.aheadIs(api.Sign, "("):
			x = p.call(at, x)
		default:
			return x
		}
	}
}

func (p *Parser) filter(at int, x part) part {
	p.enter(api.Sign, "[")
	defer p.leave()
	asked := p.within(at, "item")
	p.need(api.Sign, "]")
	return p.whole(at, api.Expr{Kind: api.FilterExpr}, x, asked)
}

func (p *Parser) call(at int, x part) part {
	p.enter(api.Sign, "(")
	defer p.leave()
	parts := []part{x}
	if !p.Take(api.Sign, ")") {
		parts = p.others(append(parts, p.expr()))
		p.need(api.Sign, ")")
	}
	return p.whole(at, api.Expr{Kind: api.CallExpr}, parts...)
}

// others reads what stands behind commas, and lays it behind what was read ahead.
func (p *Parser) others(parts []part) []part {
	for p.Take(api.Sign, ",") {
		parts = append(parts, p.expr())
	}
	return parts
}

func (p *Parser) first() part {
	t := p.Next()
	switch t.Kind {
	case api.Word:
		return p.name()
	case api.Num:
		return p.number()
	case api.Str:
		p.pass()
		return p.whole(t.At, api.Expr{Kind: api.StrExpr, S: t.S})
	case api.Key:
		return p.constant()
	case api.Sign:
		return p.enclosed()
	}
	p.refuse()
	return part{}
}

// name reads as many of the words as are the longest name in scope.
func (p *Parser) name() part {
	at := p.Next().At
	name, count := p.names.Longest(p.wordsAhead()...)
	if count == 0 {
		p.fail(at, api.ErrScope)
	}
	p.passed += count
	return p.whole(at, api.Expr{Kind: api.NameExpr, S: name})
}

func (p *Parser) number() part {
	t := p.pass()
	n, e := number.Read(t.S)
	if e != api.OK {
		p.fail(t.At, e)
	}
	form, _ := number.Text(n)
	return p.whole(t.At, api.Expr{Kind: api.NumExpr, S: form})
}

func (p *Parser) constant() part {
	t := p.Next()
	switch t.S {
	case "true", "false", "null":
		p.pass()
		return p.whole(t.At, api.Expr{Kind: api.ConstExpr, S: t.S})
	}
	p.refuse()
	return part{}
}

// enclosed reads what stands between two signs that go together.
func (p *Parser) enclosed() part {
	switch p.Next().S {
	case "(":
		return p.parentheses()
	case "[":
		return p.list()
	case "{":
		return p.entries()
	}
	p.refuse()
	return part{}
}

func (p *Parser) parentheses() part {
	at := p.enter(api.Sign, "(")
	defer p.leave()
	x := p.expr()
	if p.Take(api.Sign, "..") {
		return p.span(at, "(", x)
	}
	p.need(api.Sign, ")")
	return x
}

func (p *Parser) list() part {
	at := p.enter(api.Sign, "[")
	defer p.leave()
	if p.Take(api.Sign, "]") {
		return p.whole(at, api.Expr{Kind: api.ListExpr})
	}
	x := p.expr()
	if p.Take(api.Sign, "..") {
		return p.span(at, "[", x)
	}
	parts := p.others([]part{x})
	p.need(api.Sign, "]")
	return p.whole(at, api.Expr{Kind: api.ListExpr}, parts...)
}

// span reads what stands behind the two points.
func (p *Parser) span(at int, begin string, x part) part {
	y := p.expr()
	end := ")"
	if !p.Take(api.Sign, ")") {
		end = "]"
		p.need(api.Sign, "]")
	}
	return p.whole(at, api.Expr{Kind: api.SpanExpr, S: begin + end}, x, y)
}

// entries reads names and their parts; each name is in scope of the parts behind its own.
func (p *Parser) entries() part {
	at := p.enter(api.Sign, "{")
	defer p.leave()
	defer p.backTo(p.names)
	x := api.Expr{Kind: api.MapExpr}
	if p.Take(api.Sign, "}") {
		return p.whole(at, x)
	}
	var parts []part
	taken := map[string]bool{}
	for more := true; more; more = p.Take(api.Sign, ",") {
		name := p.newName(taken)
		p.need(api.Sign, ":")
		p.bring(at, x.Names[max(len(x.Names)-1, 0):]...) // the names ahead of the last one are in scope already
		x.Names = append(x.Names, name)
		parts = append(parts, p.expr())
	}
	p.need(api.Sign, "}")
	return p.whole(at, x, parts...)
}
