// Package utf is layer 1, characters in bytes: see shared/doc/01-utf.md.
package utf

import (
	"strings"
	"unicode/utf8"

	"tipstave/api"
)

// Rune is the character at a place, and how many bytes it has.
func Rune(b []byte, at int) (int, int, api.Errno) {
	if at < 0 || at >= len(b) {
		return 0, 0, api.ErrRange
	}
	// No character has more bytes than UTFMax, so that no more of b need be copied.
	s := string(b[at:min(len(b), at+utf8.UTFMax)])
	r, n := utf8.DecodeRuneInString(s)
	if !begins(s, r) {
		return 0, 0, api.ErrUtf
	}
	return int(r), n, api.OK
}

// Put are a character's bytes.
func Put(c int) ([]byte, api.Errno) {
	if !Fine(c) {
		return nil, api.ErrUtf
	}
	return utf8.AppendRune(nil, rune(c)), api.OK
}

// Check is the first place at which a character should begin and none does; or how many bytes there are.
func Check(b []byte) (int, api.Errno) {
	s := string(b)
	for at, r := range s {
		if !begins(s[at:], r) {
			return at, api.ErrUtf
		}
	}
	return len(b), api.OK
}

// begins asks whether a text begins with the bytes of a character that may be, where the language told r of its front.
func begins(s string, r rune) bool {
	if r == utf8.RuneError { // the language tells it of wrong bytes, too: only its own bytes may be
		return strings.HasPrefix(s, string(utf8.RuneError))
	}
	return Fine(int(r))
}

// Fine asks whether a character may be.
func Fine(c int) bool {
	switch {
	case c < ' ':
		return c == '\t' || c == '\n' || c == '\r'
	case c < 0xD800: // from here on there are halves of pairs, that are no characters
		return true
	default:
		return within(c, 0xE000, 0xFFFD) || within(c, 0x10000, utf8.MaxRune)
	}
}

// Space asks whether a character is a blank.
func Space(c int) bool {
	return c == '\t' || c == '\n' || c == '\r' || c == ' '
}

// Start asks whether a character may be the first one of a name of XML.
func Start(c int) bool {
	return letter(c)
}

// Part asks whether a character may be another one of a name of XML.
func Part(c int) bool {
	return letter(c) || digit(c) || c == '-' || c == '.' || c == 183
}

// First asks whether a character may be the first one of a word.
func First(c int) bool {
	return letter(c)
}

// Next asks whether a character may be another one of a word.
func Next(c int) bool {
	return letter(c) || digit(c)
}

// letter asks what names of XML and words have in common.
func letter(c int) bool {
	switch {
	case within(c, 'A', 'Z') || within(c, 'a', 'z') || c == '_':
		return true
	case c == 215 || c == 247: // the signs of times and of division
		return false
	default:
		return c >= 192 && Fine(c)
	}
}

func digit(c int) bool {
	return within(c, '0', '9')
}

func within(c, least, greatest int) bool {
	return least <= c && c <= greatest
}
