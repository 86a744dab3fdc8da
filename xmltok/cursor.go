package xmltok

import (
	"bytes"

	"tipstave/api"
	"tipstave/entity"
	"tipstave/names"
	"tipstave/utf"
)

// cursor is bytes that are gone through, and the place of the next one; where a call answers an error, that is the error's place.
type cursor struct {
	b  []byte
	at int
}

func (c *cursor) done() bool {
	return c.at == len(c.b)
}

func (c *cursor) begins(mark string) bool {
	return bytes.HasPrefix(c.b[c.at:], []byte(mark))
}

// take goes behind a mark, if it stands next.
func (c *cursor) take(mark string) bool {
	if !c.begins(mark) {
		return false
	}
	c.at += len(mark)
	return true
}

// ask goes behind a mark of one byte, that must stand next.
func (c *cursor) ask(mark string) api.Errno {
	if !c.take(mark) {
		return c.missing()
	}
	return api.OK
}

// missing is the error where what is asked doesn't stand next.
func (c *cursor) missing() api.Errno {
	if c.done() {
		return api.ErrShort
	}
	return api.ErrXml
}

// upTo is what stands ahead of the next mark, and goes behind that; or it is all the rest, if there is no such mark.
func (c *cursor) upTo(mark string) (string, bool) {
	ahead, _, found := bytes.Cut(c.b[c.at:], []byte(mark))
	c.at += len(ahead)
	if found {
		c.at += len(mark)
	}
	return string(ahead), found
}

// blanks goes behind blanks, and asks whether there were any.
func (c *cursor) blanks() bool {
	from := c.at
	for !c.done() && utf.Space(int(c.b[c.at])) {
		c.at++
	}
	return c.at > from
}

// name is the name that must stand next.
func (c *cursor) name() (string, api.Errno) {
	from := c.at
	for !c.done() {
		r, n, _ := utf.Rune(c.b, c.at) // the bytes were checked as a whole
		if !named(r, c.at == from) {
			break
		}
		c.at += n
	}
	if c.at == from {
		return "", c.missing()
	}
	s := string(c.b[from:c.at])
	if _, _, e := names.Split(s); e != api.OK {
		c.at = from
		return "", e
	}
	return s, api.OK
}

// named asks whether a character belongs to a name, be it as its first one or behind that; whether the colons are right, the whole name tells.
func named(r int, first bool) bool {
	return r == ':' || utf.Start(r) || !first && utf.Part(r)
}

// value is what the attribute's value tells that must stand next.
func (c *cursor) value() (string, api.Errno) {
	quote := "\""
	if c.begins("'") {
		quote = "'"
	}
	if e := c.ask(quote); e != api.OK {
		return "", e
	}
	from := c.at
	s, closed := c.upTo(quote)
	told, at, e := entity.Value(s)
	if e != api.OK { // it stands ahead of the end, whether the value has one or not
		c.at = from + at
		return "", e
	}
	if !closed {
		return "", api.ErrShort
	}
	return told, api.OK
}
