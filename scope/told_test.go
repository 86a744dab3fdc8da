package scope_test

import (
	"regexp"
	"slices"
	"strings"
	"unicode/utf8"

	"tipstave/api"
)

// What a scope must answer, by the chapter's sentences: here a scope is the list of its names, and each call goes through all of it.

const letters = `A-Za-z_\x{C0}-\x{D6}\x{D8}-\x{F6}\x{F8}-\x{D7FF}\x{E000}-\x{FFFD}\x{10000}-\x{10FFFF}`

var (
	wordRe = regexp.MustCompile(`^[` + letters + `][0-9` + letters + `]*$`)
	keyRe  = regexp.MustCompile(`^(and|between|else|every|false|for|function|if|in|not|null|or|return|satisfies|some|then|true)$`)
)

func isName(s string) bool {
	for _, w := range strings.Split(s, " ") {
		if !utf8.ValidString(w) || !wordRe.MatchString(w) || keyRe.MatchString(w) {
			return false
		}
	}
	return true
}

// toldWith are the names of a scope with some more, in the order of their bytes, and the error.
func toldWith(all, l []string) ([]string, api.Errno) {
	more := slices.Clone(all)
	for _, name := range l {
		if !isName(name) {
			return nil, api.ErrName
		}
		if !slices.Contains(more, name) {
			more = append(more, name)
		}
	}
	if len(more) > api.MaxScope {
		return nil, api.ErrLong
	}
	slices.SortFunc(more, strings.Compare)
	return more, api.OK
}

func toldLongest(all, words []string) (string, int) {
	for k := len(words); k > 0; k-- {
		if s := strings.Join(words[:k], " "); slices.Contains(all, s) {
			return s, k
		}
	}
	return "", 0
}
