package feellex

import (
	"strconv"
	"strings"

	"tipstave/api"
	"tipstave/names"
	"tipstave/utf"
)

var signs = [...]string{
	"+", "-", "*", "**", "/", "<", "<=", ">", ">=", "=", "!=",
	"(", ")", "[", "]", "{", "}", ",", ":", ".", "..",
}

// What stands behind a \ in quotes, and what each of these tells.
const (
	escapes = `"\nrt`
	escaped = "\"\\\n\r\t"
)

// keywords are collected once a text, as layer 2 makes them anew whenever it is asked of a word.
func keywords() map[string]bool {
	keys := map[string]bool{}
	for key := range names.All() {
		keys[key] = true
	}
	return keys
}

// front is the token that a text begins with, whose first character is r, and how many bytes it has; or an error, and how many bytes stand ahead of it.
func front(s string, r rune, keys map[string]bool) (api.Lex, int, api.Errno) {
	if utf.First(int(r)) {
		t := word(s[:runEnd(s, utf.Next)], keys)
		return t, len(t.S), api.OK
	}
	if r == '"' {
		text, n, e := quoted(s)
		if e != api.OK {
			return api.Lex{}, n, e
		}
		return api.Lex{Kind: api.Str, S: text}, n, api.OK
	}
	if n := numberEnd(s); n > 0 {
		return api.Lex{Kind: api.Num, S: s[:n]}, n, api.OK
	}
	if n := signEnd(s); n > 0 {
		return api.Lex{Kind: api.Sign, S: s[:n]}, n, api.OK
	}
	return api.Lex{}, 0, api.ErrLex
}

func word(s string, keys map[string]bool) api.Lex {
	if keys[s] {
		return api.Lex{Kind: api.Key, S: s}
	}
	return api.Lex{Kind: api.Word, S: s}
}

// numberEnd is how many bytes the longest text of a number has that a text begins with.
func numberEnd(s string) int {
	whole := runEnd(s, digit)
	behind, pointed := strings.CutPrefix(s[whole:], ".")
	part := runEnd(behind, digit)
	if !pointed || part == 0 {
		return whole
	}
	return whole + len(".") + part
}

func isNumber(s string) bool {
	return s != "" && numberEnd(s) == len(s)
}

// signEnd is how many bytes the longest sign has that a text begins with.
func signEnd(s string) int {
	longest := 0
	for _, x := range signs {
		if strings.HasPrefix(s, x) {
			longest = max(longest, len(x))
		}
	}
	return longest
}

func isSign(s string) bool {
	return s != "" && signEnd(s) == len(s)
}

// runEnd is how many bytes stand ahead of the first character that isn't of a kind.
func runEnd(s string, kind func(int) bool) int {
	for at, r := range s {
		if !kind(int(r)) {
			return at
		}
	}
	return len(s)
}

func digit(c int) bool {
	return '0' <= c && c <= '9'
}

// quoted is what the text in quotes tells that a text begins with, and how many bytes it has; or an error, and how many bytes stand ahead of it.
func quoted(s string) (string, int, api.Errno) {
	var told strings.Builder
	end := len(`"`) // of what was told last
	for at, r := range s {
		switch {
		case at < end:
			continue
		case r == '"':
			return told.String(), at + len(`"`), api.OK
		case r == '\\':
			c, n := escape(s[at:])
			if n == 0 {
				return "", at, api.ErrLex
			}
			told.WriteRune(c)
			end = at + n
		default:
			told.WriteRune(r)
		}
	}
	return "", len(s), api.ErrShort
}

// escape is the character that the \ tells that a text begins with, and how many bytes belong to it: 0, if it tells none.
func escape(s string) (rune, int) {
	if behind, ok := strings.CutPrefix(s, `\u`); ok {
		return numbered(behind)
	}
	if len(s) < 2 {
		return 0, 0
	}
	i := strings.IndexByte(escapes, s[1])
	if i < 0 {
		return 0, 0
	}
	return rune(escaped[i]), 2
}

// numbered is the character of the four digits that stand behind a \u, and how many bytes belong to it, with the \u: 0, if it may not be.
func numbered(s string) (rune, int) {
	const digits = 4
	if len(s) < digits {
		return 0, 0
	}
	// Of a base that is told, this takes digits alone: no sign, no _, no 0x.
	c, err := strconv.ParseUint(s[:digits], 16, 16)
	if err != nil || !utf.Fine(int(c)) {
		return 0, 0
	}
	return rune(c), len(`\u`) + digits
}
