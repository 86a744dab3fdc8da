package feellex_test

import (
	"regexp"
	"strconv"
	"strings"
	"unicode/utf8"

	"tipstave/api"
)

// The chapters' own forms of what a text begins with.
const letters = `A-Z_a-z\x{C0}-\x{D6}\x{D8}-\x{F6}\x{F8}-\x{D7FF}\x{E000}-\x{FFFD}\x{10000}-\x{10FFFF}`

var (
	blankRe = regexp.MustCompile(`^[\t\n\r ]`)
	wordRe  = regexp.MustCompile(`^[` + letters + `][` + letters + `0-9]*`)
	numRe   = regexp.MustCompile(`^(?:[0-9]+(?:\.[0-9]+)?|\.[0-9]+)`)
	signRe  = regexp.MustCompile(`^(?:\*\*|<=|>=|!=|\.\.|[-+*/<>=()\[\]{},:.])`)
	strRe   = regexp.MustCompile(`(?s)^"((?:[^"\\]|\\.)*\\?)("?)`)
	slashRe = regexp.MustCompile(`(?s)\\(u[0-9A-Fa-f]{4}|.)?`)
	keyRe   = regexp.MustCompile(`^(?:and|between|else|every|false|for|function|if|in|not|null|or|return|satisfies|some|then|true)$`)
)

// mayBe tells by chapter 1's own numbers which characters may be.
func mayBe(c int) bool {
	return c == 9 || c == 10 || c == 13 || 32 <= c && c <= 55295 || 57344 <= c && c <= 65533 || 65536 <= c && c <= 1114111
}

// wrongByte is where a character should begin and none that may be does, or -1.
func wrongByte(s string) int {
	for at := 0; at < len(s); {
		c, n := utf8.DecodeRuneInString(s[at:])
		if c == utf8.RuneError && n < 3 || !mayBe(int(c)) {
			return at
		}
		at += n
	}
	return -1
}

// toldLex is what Lex must answer.
func toldLex(s string) ([]api.Lex, int, api.Errno) {
	if at := wrongByte(s); at >= 0 {
		return nil, at, api.ErrUtf
	}
	var l []api.Lex
	for at := 0; at < len(s); {
		if blankRe.MatchString(s[at:]) {
			at++
			continue
		}
		x, n, e := toldFront(s[at:])
		if e != api.OK {
			return nil, at + n, e
		}
		x.At = at
		l = append(l, x)
		at += n
	}
	return append(l, api.Lex{Kind: 5, At: len(s)}), len(s), api.OK
}

// toldFront is the token that s begins with, and how many bytes it has; or its error, and where.
func toldFront(s string) (api.Lex, int, api.Errno) {
	if w := wordRe.FindString(s); keyRe.MatchString(w) {
		return api.Lex{Kind: 1, S: w}, len(w), api.OK
	} else if w != "" {
		return api.Lex{Kind: 0, S: w}, len(w), api.OK
	}
	if n := numRe.FindString(s); n != "" {
		return api.Lex{Kind: 2, S: n}, len(n), api.OK
	}
	if m := strRe.FindStringSubmatch(s); m != nil {
		text, at := toldSlashes(m[1])
		switch {
		case at >= 0:
			return api.Lex{}, 1 + at, api.ErrLex
		case m[2] == "":
			return api.Lex{}, len(s), api.ErrShort
		}
		return api.Lex{Kind: 3, S: text}, len(m[0]), api.OK
	}
	if x := signRe.FindString(s); x != "" {
		return api.Lex{Kind: 4, S: x}, len(x), api.OK
	}
	return api.Lex{}, 0, api.ErrLex
}

// toldSlashes is what stands in quotes with each \ told, or where the first wrong one stands: -1, if none is.
func toldSlashes(s string) (string, int) {
	text, from := "", 0
	for _, m := range slashRe.FindAllStringIndex(s, -1) {
		c, ok := toldSlash(s[m[0]+1 : m[1]])
		if !ok {
			return "", m[0]
		}
		text += s[from:m[0]] + c
		from = m[1]
	}
	return text + s[from:], -1
}

// toldSlash is the character of what stands behind a \, and whether it may be.
func toldSlash(s string) (string, bool) {
	if len(s) == 5 {
		c, _ := strconv.ParseInt("0x"+s[1:], 0, 64)
		return string(rune(c)), mayBe(int(c))
	}
	c, ok := map[string]string{`"`: "\"", `\`: "\\", "n": "\n", "r": "\r", "t": "\t"}[s]
	return c, ok
}

// toldQuote is what Quote must answer.
func toldQuote(s string) (string, api.Errno) {
	if wrongByte(s) >= 0 {
		return "", api.ErrUtf
	}
	return `"` + strings.NewReplacer("\"", `\"`, "\\", `\\`, "\n", `\n`, "\r", `\r`, "\t", `\t`).Replace(s) + `"`, api.OK
}

// toldText is what Text must answer.
func toldText(x api.Lex) (string, api.Errno) {
	s, right, wrong := x.S, false, api.Errno(2)
	switch x.Kind {
	case 0:
		right, wrong = wordRe.FindString(s) == s && s != "" && wrongByte(s) < 0 && !keyRe.MatchString(s), 6
	case 1:
		right, wrong = keyRe.MatchString(s), 6
	case 2:
		right, wrong = numRe.FindString(s) == s && s != "", 17
	case 3:
		return toldQuote(s)
	case 4:
		right, wrong = signRe.FindString(s) == s && s != "", 11
	case 5:
		right = s == ""
	}
	if !right {
		return "", wrong
	}
	return s, api.OK
}
