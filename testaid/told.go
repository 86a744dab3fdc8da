package testaid

import (
	"slices"
	"strings"

	"tipstave/api"
	"tipstave/number"
)

// What is read of tokens, by the chapters' own tables of what may stand: each alternative is tried at each place, whatever comes of the others, and what is told is what was wrong where most tokens were read.

// alternative is one of what may stand: which expression it is, and its items, one behind the other:
//   - 'x is a sign or a keyword; with ^ behind it the nesting is one more from it on, with v one less
//   - NUM, STR and NAME are tokens that an expression is by itself; WORDS are its S, PARAM is one more of its Names; END is the end of all tokens
//   - +S, +NAMES, +AHEAD (all Names but the last) and +item come into scope
//   - all others are rules, each of which is a part.
type alternative struct {
	kind  int
	s     string
	items []string
}

// The kinds of what is its part, and of what is parts without being an expression.
const (
	itself  = -1
	several = -2
)

// rule is what may stand, and what may stand behind that any number of times.
type rule struct{ begin, behind []alternative }

// Rules are rules by their names.
type Rules map[string]rule

func one(kind int, s, items string) []alternative {
	return []alternative{{kind, s, strings.Fields(items)}}
}

// each are alternatives that have one of some signs: where * stands.
func each(kind int, items string, signs ...string) []alternative {
	var l []alternative
	for _, s := range signs {
		l = append(l, one(kind, s, strings.ReplaceAll(items, "*", "'"+s))...)
	}
	return l
}

// inRow have an item any number of times, up to so many, with commas between.
func inRow(kind int, s, begin, item, end string, most int) []alternative {
	l := one(kind, s, begin+" "+end)
	for n := range most {
		l = append(l, one(kind, s, begin+" "+item+strings.Repeat(" ', "+item, n)+" "+end)...)
	}
	return l
}

// RulesOf are all rules, where no list has more things than so many.
func RulesOf(most int) Rules {
	tests := each(19, "* sum", "<", "<=", ">", ">=")
	return Rules{
		"expr": {begin: slices.Concat(
			one(11, "", "'if^ expr 'then expr 'else expr"),
			one(12, "", "'for^ WORDS 'in expr 'return +S expr"),
			one(13, "", "'some^ WORDS 'in expr 'satisfies +S expr"),
			one(14, "", "'every^ WORDS 'in expr 'satisfies +S expr"),
			inRow(15, "", "'function^ '(^", "PARAM", "')v +NAMES expr", most),
			one(itself, "", "or"))},
		"or":  {one(itself, "", "and"), each(5, "* and", "or")},
		"and": {one(itself, "", "cond"), each(5, "* cond", "and")},
		"cond": {begin: slices.Concat(
			one(itself, "", "sum"),
			each(5, "sum * sum", "=", "!=", "<", "<=", ">", ">="),
			one(6, "", "sum 'between sum 'and sum"),
			one(7, "", "sum 'in test"))},
		"test": {begin: append(one(itself, "", "sum"), tests...)},
		"part": {begin: append(one(itself, "", "expr"), tests...)},
		"tests": {begin: slices.Concat(
			one(several, "any", "'- END"),
			inRow(several, "none of", "'not '(", "part", "') END", most)[1:],
			inRow(several, "", "", "part", "END", most)[1:])},
		"sum":   {one(itself, "", "term"), each(5, "* term", "+", "-")},
		"term":  {one(itself, "", "power"), each(5, "* power", "*", "/")},
		"power": {one(itself, "", "minus"), one(5, "**", "'** minus")},
		"minus": {begin: append(one(itself, "", "tight"), one(4, "", "'- minus")...)},
		"tight": {one(itself, "", "first"), slices.Concat(
			one(8, "", "'. WORDS"),
			one(9, "", "'[^ +item expr ']"),
			inRow(10, "", "'(^", "expr", "')", most))},
		"first": {begin: slices.Concat(
			one(0, "", "NUM"), one(1, "", "STR"), each(2, "*", "true", "false", "null"), one(3, "", "NAME"),
			one(itself, "", "'(^ expr ')"),
			one(18, "()", "'(^ expr '.. expr ')"), one(18, "(]", "'(^ expr '.. expr ']"),
			one(18, "[]", "'[^ expr '.. expr ']"), one(18, "[)", "'[^ expr '.. expr ')"),
			inRow(16, "", "'[^", "expr", "']", most),
			inRow(17, "", "'{^", "PARAM ': +AHEAD expr", "'}", most))},
	}
}

// run is how far an alternative was tried.
type run struct {
	next, nesting int // the number of the token that is ahead
	names         []string
	x             api.Expr
	deep          int // of its deepest part
}

// result is what a rule may be, and the number of the token behind it.
type result struct {
	x          api.Expr
	deep, next int
}

// How much more is known of where a fault is: what a token may not be; what is wrong ahead of a token; what is wrong with a token that may stand there.
const (
	refused = iota
	ahead
	accepted
)

type fault struct {
	next, rank, at int
	e              api.Errno
}

type tried struct {
	rule          string
	next, nesting int
	names         string
}

type oracle struct {
	tokens []api.Lex
	rules  Rules
	known  map[tried][]result
	worst  fault
}

func (o *oracle) fail(next, rank, at int, e api.Errno) {
	if next > o.worst.next || next == o.worst.next && rank > o.worst.rank || o.worst.e == api.OK {
		o.worst = fault{next, rank, at, e}
	}
}

func (o *oracle) refuse(r run) []run {
	o.fail(r.next, refused, o.tokens[r.next].At, api.ErrSyntax)
	return nil
}

// read is all that a rule may be from a token on.
func (o *oracle) read(name string, next, nesting int, names []string) []result {
	key := tried{name, next, nesting, strings.Join(names, "|")}
	if l, ok := o.known[key]; ok {
		return l
	}
	var l []result
	r := run{next: next, nesting: nesting, names: names}
	for _, a := range o.rules[name].begin {
		l = append(l, o.try(a, next, r)...)
	}
	for i := 0; i < len(l); i++ { // l grows
		for _, a := range o.rules[name].behind {
			r := run{next: l[i].next, nesting: nesting, names: names, x: api.Expr{L: []api.Expr{l[i].x}}, deep: l[i].deep}
			l = append(l, o.try(a, next, r)...)
		}
	}
	o.known[key] = l
	return l
}

// try is all that an alternative may be, as an expression whose first token has that number.
func (o *oracle) try(a alternative, first int, r run) []result {
	r.x.Kind, r.x.S = a.kind, a.s
	at := o.tokens[first].At
	runs := []run{r}
	for _, item := range a.items {
		var further []run
		for _, r := range runs {
			further = append(further, o.step(item, at, r)...)
		}
		runs = further
	}
	var l []result
	for _, r := range runs {
		switch {
		case a.kind == itself:
			l = append(l, result{r.x.L[0], r.deep, r.next})
		case a.kind == several:
			l = append(l, result{r.x, r.deep, r.next})
		case r.deep >= 200:
			o.fail(r.next, ahead, at, api.ErrDeep)
		default:
			l = append(l, result{r.x, r.deep + 1, r.next})
		}
	}
	return l
}

// step is how far a run may come by one item of an expression at a place.
func (o *oracle) step(item string, at int, r run) []run {
	if sign, ok := strings.CutPrefix(item, "'"); ok {
		return o.sign(sign, r)
	}
	switch item {
	case "NUM", "STR":
		return o.literal(item, r)
	case "NAME", "WORDS", "PARAM":
		return o.words(item, r)
	case "END":
		return o.end(r)
	case "+S":
		return o.bring(at, r, r.x.S)
	case "+item":
		return o.bring(at, r, "item")
	case "+NAMES":
		return o.bring(at, r, r.x.Names...)
	case "+AHEAD":
		return o.bring(at, r, r.x.Names[:len(r.x.Names)-1]...)
	}
	var l []run
	for _, part := range o.read(item, r.next, r.nesting, r.names) {
		further := r
		further.next, further.deep = part.next, max(r.deep, part.deep)
		further.x.L = append(slices.Clip(r.x.L), part.x)
		l = append(l, further)
	}
	return l
}

func (o *oracle) sign(s string, r run) []run {
	text := strings.TrimRight(s, "^v")
	t := o.tokens[r.next]
	if t.Kind != api.Sign && t.Kind != api.Key || t.S != text {
		return o.refuse(r)
	}
	switch s[len(text):] {
	case "^":
		r.nesting++
	case "v":
		r.nesting--
	}
	if r.nesting > 200 {
		o.fail(r.next, accepted, t.At, api.ErrDeep)
		return nil
	}
	r.next++
	return []run{r}
}

func (o *oracle) end(r run) []run {
	if o.tokens[r.next].Kind != api.Finish {
		return o.refuse(r)
	}
	return []run{r}
}

func (o *oracle) literal(item string, r run) []run {
	t := o.tokens[r.next]
	kind := map[string]int{"NUM": api.Num, "STR": api.Str}[item]
	if t.Kind != kind {
		return o.refuse(r)
	}
	r.x.S = t.S
	if item == "NUM" {
		if len(t.S)-strings.Count(t.S, ".") > 1000 {
			o.fail(r.next, accepted, t.At, api.ErrLong)
			return nil
		}
		n, _ := number.Read(t.S)
		r.x.S, _ = number.Text(n)
	}
	r.next++
	return []run{r}
}

func (o *oracle) words(item string, r run) []run {
	first := o.tokens[r.next]
	var l []string
	for o.tokens[r.next+len(l)].Kind == api.Word {
		l = append(l, o.tokens[r.next+len(l)].S)
	}
	if len(l) == 0 {
		return o.refuse(r)
	}
	if item == "NAME" {
		for len(l) > 0 && !slices.Contains(r.names, strings.Join(l, " ")) {
			l = l[:len(l)-1]
		}
		if len(l) == 0 {
			o.fail(r.next, accepted, first.At, api.ErrScope)
			return nil
		}
	}
	r.next += len(l)
	name := strings.Join(l, " ")
	if item != "PARAM" {
		r.x.S = name
		return []run{r}
	}
	if slices.Contains(r.x.Names, name) {
		o.fail(r.next, ahead, first.At, api.ErrTwice)
		return nil
	}
	r.x.Names = append(slices.Clip(r.x.Names), name)
	return []run{r}
}

func (o *oracle) bring(at int, r run, more ...string) []run {
	r.names = slices.Concat(r.names, more)
	slices.Sort(r.names)
	r.names = slices.Compact(r.names)
	if len(r.names) > 4096 {
		o.fail(r.next, ahead, at, api.ErrLong)
		return nil
	}
	return []run{r}
}

// ToldNext is what is read by a rule where so many tokens were passed, and how many are passed then.
func ToldNext(rules Rules, name string, tokens []api.Lex, passed int, names []string) (api.Expr, int, int, api.Errno) {
	o := oracle{tokens: tokens, rules: rules, known: map[tried][]result{}}
	names = slices.Sorted(slices.Values(names))
	longest := result{next: -1}
	for _, x := range o.read(name, passed, 0, slices.Compact(names)) {
		switch {
		case x.next == longest.next:
			panic("it may be read in two ways")
		case x.next > longest.next:
			longest = x
		}
	}
	// Behind the whole each token but those that go on with it is refused.
	if w := o.worst; w.next > longest.next || w.next == longest.next && w.rank > refused {
		return api.Expr{}, w.at, passed, w.e
	}
	return longest.x, tokens[longest.next].At, longest.next, api.OK
}

// ToldParse is the expression that tokens are, or where they are wrong.
func ToldParse(rules Rules, tokens []api.Lex, names []string) (api.Expr, int, api.Errno) {
	x, at, passed, e := ToldNext(rules, "expr", tokens, 0, names)
	if e == api.OK && passed < len(tokens)-1 {
		return api.Expr{}, at, api.ErrSyntax
	}
	return x, at, e
}

// ToldTests are the tests that tokens are, or where they are wrong.
func ToldTests(rules Rules, tokens []api.Lex, names []string) (api.Tests, int, api.Errno) {
	x, at, _, e := ToldNext(rules, "tests", tokens, 0, names)
	return api.Tests{Any: x.S == "any", Not: x.S == "none of", L: x.L}, at, e
}
