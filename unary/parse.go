package unary

import (
	"tipstave/api"
	"tipstave/feellex"
	"tipstave/feelparse"
	"tipstave/scope"
)

// Parse are the tests that a text is, and its length; or where it is wrong.
func Parse(s string, names *scope.Scope) (api.Tests, int, api.Errno) {
	tokens, at, e := feellex.Lex(s)
	switch {
	case e != api.OK:
		return api.Tests{}, at, e
	case isAny(tokens):
		return api.Tests{Any: true}, at, api.OK
	}
	return read(feelparse.New(tokens, names))
}

// isAny asks whether a - stands alone ahead of the end: with anything else behind it, it begins an expression.
func isAny(tokens []api.Lex) bool {
	return len(tokens) == 2 && tokens[0].Kind == api.Sign && tokens[0].S == "-"
}

// read reads one test or more, up to the end.
func read(p *feelparse.Parser) (api.Tests, int, api.Errno) {
	t := api.Tests{Not: p.Take(api.Key, "not")}
	if t.Not && !p.Take(api.Sign, "(") {
		return refuse(p)
	}
	for more := true; more; more = p.Take(api.Sign, ",") {
		x, at, e := p.Test()
		if e != api.OK {
			return api.Tests{}, at, e
		}
		t.L = append(t.L, x)
	}
	if t.Not && !p.Take(api.Sign, ")") || p.Next().Kind != api.Finish {
		return refuse(p)
	}
	return t, p.Next().At, api.OK
}

// refuse tells that the token that is ahead may not stand there.
func refuse(p *feelparse.Parser) (api.Tests, int, api.Errno) {
	return api.Tests{}, p.Next().At, api.ErrSyntax
}
