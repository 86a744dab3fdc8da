package expr_test

import (
	"fmt"
	"regexp"
	"slices"
	"strings"
	"unicode/utf8"

	"tipstave/api"
	"tipstave/testaid"
)

// What the calls must answer, by the chapter's sentences: an expression is laid out as a list of all its parts, each with where it stands, and each of these is asked by itself.

const letters = `A-Za-z_\x{C0}-\x{D6}\x{D8}-\x{F6}\x{F8}-\x{D7FF}\x{E000}-\x{FFFD}\x{10000}-\x{10FFFF}`

var (
	wordRe = regexp.MustCompile(`^[` + letters + `][0-9` + letters + `]*$`)
	keyRe  = regexp.MustCompile(`^(and|between|else|every|false|for|function|if|in|not|null|or|return|satisfies|some|then|true)$`)
	fineRe = regexp.MustCompile(`^[\t\n\r\x20-\x{D7FF}\x{E000}-\x{FFFD}\x{10000}-\x{10FFFF}]*$`)
	formRe = regexp.MustCompile(`^(0|[1-9][0-9]*)(\.[0-9]*[1-9])?$`)
	signRe = regexp.MustCompile(`^(or|and|=|!=|<|<=|>|>=|\+|-|\*|/|\*\*)$`)
	testRe = regexp.MustCompile(`^(<|<=|>|>=)$`)
	spanRe = regexp.MustCompile(`^(\[\]|\[\)|\(\]|\(\))$`)
	oddRe  = regexp.MustCompile(`^(true|false|null)$`)
)

func isName(s string) bool {
	for _, w := range strings.Split(s, " ") {
		if !utf8.ValidString(w) || !wordRe.MatchString(w) || keyRe.MatchString(w) {
			return false
		}
	}
	return true
}

// isForm asks whether a text is that of the one form of a number, with no more digits, and no more of them behind the point, than may be.
func isForm(s string) bool {
	if !formRe.MatchString(s) {
		return false
	}
	whole, part, _ := strings.Cut(s, ".")
	return len(strings.TrimLeft(whole+part, "0")) <= 1000 && len(part) <= 1000
}

// placed is an expression, how deep it stands, whether it may be a test there, and which names are brought into scope by those around it.
type placed struct {
	x         api.Expr
	deep      int
	mayBeTest bool
	brought   []string
}

// inList are an expression and its parts, at any depth, each ahead of its parts.
func inList(p placed) []placed {
	l := []placed{p}
	for i, part := range p.x.L {
		brought := slices.Concat(p.brought, broughtTo(p.x, i))
		mayBeTest := p.x.Kind == api.InExpr && i == 1
		l = append(l, inList(placed{part, p.deep + 1, mayBeTest, brought})...)
	}
	return l
}

func whole(x api.Expr) []placed { return inList(placed{x, 1, true, nil}) }

// broughtTo are the names that are in scope of a part, beside those of its expression.
func broughtTo(x api.Expr, part int) []string {
	switch {
	case x.Kind >= 12 && x.Kind <= 14 && part == 1:
		return []string{x.S}
	case x.Kind == 9 && part == 1:
		return []string{"item"}
	case x.Kind == 15:
		return x.Names
	case x.Kind == 17:
		return x.Names[:min(part, len(x.Names))] // a wrong one may have fewer
	}
	return nil
}

func toldCheck(x api.Expr) api.Errno {
	l := whole(x)
	for _, p := range l {
		if p.deep > 200 {
			return api.ErrDeep
		}
	}
	for _, p := range l {
		if e := toldAlone(p); e != 0 {
			return e
		}
	}
	return 0
}

// counts are how many parts a kind has, and how many Names: n is any number, N one or more, and two of one letter are as many.
func counts(kind int) string {
	return strings.Fields("0,0 0,0 0,0 0,0 1,0 2,0 3,0 2,0 1,0 2,0 N,0 3,0 2,0 2,0 2,0 1,n n,0 m,m 2,0 1,0")[kind]
}

func countsHold(x api.Expr) bool {
	parts, names, _ := strings.Cut(counts(x.Kind), ",")
	holds := func(count string, n int) bool {
		return count == "n" || count == "m" || count == "N" && n > 0 || count == fmt.Sprint(n)
	}
	return holds(parts, len(x.L)) && holds(names, len(x.Names)) && (names != "m" || len(x.L) == len(x.Names))
}

// toldAlone is what is wrong with an expression where it stands, its parts left aside.
func toldAlone(p placed) api.Errno {
	if p.x.Kind < 0 || p.x.Kind > 19 {
		return api.ErrArg
	}
	if !countsHold(p.x) || p.x.Kind == 19 && !p.mayBeTest || !textHolds(p.x) {
		return api.ErrForm
	}
	asked := slices.Clone(p.x.Names)
	if p.x.Kind == 3 || p.x.Kind == 8 || p.x.Kind >= 12 && p.x.Kind <= 14 {
		asked = append(asked, p.x.S)
	}
	for _, name := range asked {
		if !isName(name) {
			return api.ErrName
		}
	}
	for i, name := range p.x.Names {
		if slices.Index(p.x.Names, name) != i {
			return api.ErrTwice
		}
	}
	if p.x.Kind == 1 && !(fineRe.MatchString(p.x.S) && utf8.ValidString(p.x.S)) {
		return api.ErrUtf
	}
	return 0
}

// textHolds asks whether S is what is said of it, if that isn't a name or characters.
func textHolds(x api.Expr) bool {
	switch x.Kind {
	case 0:
		return isForm(x.S)
	case 2:
		return oddRe.MatchString(x.S)
	case 5:
		return signRe.MatchString(x.S)
	case 18:
		return spanRe.MatchString(x.S)
	case 19:
		return testRe.MatchString(x.S)
	case 1, 3, 8, 12, 13, 14:
		return true
	}
	return x.S == ""
}

// toldScoped is what Scoped must answer of a right expression, where so many names are in scope of it.
func toldScoped(x api.Expr, names []string) api.Errno {
	for _, p := range whole(x) {
		there := slices.Concat(names, p.brought)
		slices.Sort(there)
		if len(slices.Compact(slices.Clone(there))) > 4096 {
			return api.ErrLong
		}
		if p.x.Kind == 3 && !slices.Contains(there, p.x.S) {
			return api.ErrScope
		}
	}
	return 0
}

func toldFree(x api.Expr) []string {
	var free []string
	for _, p := range whole(x) {
		if p.x.Kind == 3 && !slices.Contains(p.brought, p.x.S) && !slices.Contains(free, p.x.S) {
			free = append(free, p.x.S)
		}
	}
	slices.SortFunc(free, strings.Compare)
	return free
}

func toldDepth(x api.Expr) int {
	deepest := 0
	for _, p := range whole(x) {
		deepest = max(deepest, p.deep)
	}
	return deepest
}

func toldCount(x api.Expr) int { return len(whole(x)) }

func toldSame(a, b api.Expr) bool { return testaid.Expr(a) == testaid.Expr(b) }
