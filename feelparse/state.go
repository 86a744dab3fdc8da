package feelparse

import (
	"strings"

	"tipstave/api"
	"tipstave/scope"
)

// part is an expression that was read, and how deep it is.
type part struct {
	x    api.Expr
	deep int
}

// tell is what was read, and the place behind it; or what was wrong first, and the parser stays where it was.
func (p *Parser) tell(read func(*Parser) part) (api.Expr, int, api.Errno) {
	if p == nil {
		return api.Expr{}, 0, api.ErrNil
	}
	if p.wrong != api.OK {
		return api.Expr{}, p.wrongAt, p.wrong
	}
	began := p.passed
	told := read(p)
	if p.wrong != api.OK {
		p.passed = began
		return api.Expr{}, p.wrongAt, p.wrong
	}
	return told.x, p.Next().At, api.OK
}

// fail notes what is wrong, unless something was ahead of it: all tokens are passed over then, so that whatever is being read ends.
func (p *Parser) fail(at int, e api.Errno) {
	if p.wrong == api.OK {
		p.wrongAt, p.wrong = at, e
		p.passed = len(p.tokens)
	}
}

// refuse tells that the token that is ahead may not stand there.
func (p *Parser) refuse() { p.fail(p.Next().At, api.ErrSyntax) }

func (p *Parser) need(kind int, s string) {
	if !p.Take(kind, s) {
		p.refuse()
	}
}

// pass goes behind the token that is ahead, which isn't the Finish.
func (p *Parser) pass() api.Lex {
	t := p.Next()
	p.passed++
	return t
}

func (p *Parser) aheadIs(kind int, s string) bool {
	t := p.Next()
	return t.Kind == kind && t.S == s
}

// enter goes behind a token that nests, and tells its place; leave is for its end.
func (p *Parser) enter(kind int, s string) int {
	at := p.Next().At
	if p.nesting == api.MaxDepth && p.aheadIs(kind, s) {
		p.fail(at, api.ErrDeep)
	}
	p.need(kind, s)
	p.nesting++
	return at
}

func (p *Parser) leave() { p.nesting-- }

// bring takes more names into scope, for an expression at a place; backTo is for its end.
func (p *Parser) bring(at int, more ...string) {
	names, e := p.names.With(more...)
	if e != api.OK {
		p.fail(at, e)
		return
	}
	p.names = names
}

func (p *Parser) backTo(names *scope.Scope) { p.names = names }

// whole is an expression at a place, all of whose parts were read: nothing, if something is wrong.
func (p *Parser) whole(at int, x api.Expr, parts ...part) part {
	deepest := 0
	x.L = make([]api.Expr, len(parts))
	for i, y := range parts {
		x.L[i] = y.x
		deepest = max(deepest, y.deep)
	}
	if deepest >= api.MaxDepth {
		p.fail(at, api.ErrDeep)
	}
	if p.wrong != api.OK {
		return part{}
	}
	return part{x, deepest + 1}
}

// wordsAhead are the words that stand there, as many as there are.
func (p *Parser) wordsAhead() []string {
	var l []string
	for _, t := range p.tokens[p.passed:] {
		if t.Kind != api.Word {
			break
		}
		l = append(l, t.S)
	}
	return l
}

// words reads a name that needn't be in scope.
func (p *Parser) words() string {
	l := p.wordsAhead()
	if len(l) == 0 {
		p.refuse()
	}
	p.passed += len(l)
	return strings.Join(l, " ")
}

// newName reads a name that isn't taken, and takes it.
func (p *Parser) newName(taken map[string]bool) string {
	at := p.Next().At
	name := p.words()
	if taken[name] {
		p.fail(at, api.ErrTwice)
	}
	taken[name] = true
	return name
}
