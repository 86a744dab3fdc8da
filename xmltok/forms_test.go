package xmltok_test

import (
	"regexp"
	"strings"
	"unicode/utf8"

	"tipstave/api"
	"tipstave/entity"
)

// The chapter's own forms: B blanks, N a name as long as it can be, V a value.
var (
	first   = `:A-Z_a-z\x{C0}-\x{D6}\x{D8}-\x{F6}\x{F8}-\x{D7FF}\x{E000}-\x{FFFD}\x{10000}-\x{10FFFF}`
	shorts  = strings.NewReplacer("B", `[\t\n\r ]`, "N", `([`+first+`][`+first+`0-9.\x{B7}-]*)`, "V", `("[^"]*"|'[^']*')`)
	plain   = `[` + first[1:] + `][` + first[1:] + `0-9.\x{B7}-]*`
	nameRe  = regexp.MustCompile(`^(` + plain + `:)?` + plain + `$`)
	declRe  = form(`<\?xmlB`)
	commRe  = form(`<!--(.*?)--(.?)`)
	rawRe   = form(`<!\[CDATA\[(.*?)\]\]>`)
	frontRe = form(`</?N`)
	attrRe  = form(`B+NB*=B*V`)
	closeRe = form(`B*>`)
	emptyRe = form(`B*/>`)
)

func form(s string) *regexp.Regexp { return regexp.MustCompile(`(?s)^` + shorts.Replace(s)) }

// stops are what stands of a tag where it ends too early or goes on wrongly, and which of its parts tells how far it was right.
var stops = []*regexp.Regexp{form(`(B+)NB*=B*["']`), form(`(B+)NB*=B*`), form(`(B+)NB*`), form(`(B*/)`), form(`(B*)`)}

// told is what Tokens must answer.
func told(s string) ([]api.Token, int, api.Errno) {
	if at := wrongByte(s); at >= 0 {
		return nil, at, api.ErrUtf
	}
	var l []api.Token
	for at := 0; at < len(s); {
		x, n, e := one(s[at:], at == 0)
		if e == api.ErrShort {
			return nil, len(s), e
		}
		if e != api.OK {
			return nil, at + n, e
		}
		if x != nil {
			x.At = at
			for i := range x.Attrs {
				x.Attrs[i].At += at
			}
			l = append(l, *x)
		}
		at += n
	}
	return l, len(s), api.OK
}

// wrongByte is where a character should begin and none that may be does, or -1.
func wrongByte(s string) int {
	for at, c := range s {
		if c == utf8.RuneError && !strings.HasPrefix(s[at:], "\ufffd") || c < 32 && c != 9 && c != 10 && c != 13 || c == 0xfffe || c == 0xffff {
			return at
		}
	}
	return -1
}

// one is the token that s begins with, if it is one, and how many bytes it has; or its error, and where.
func one(s string, front bool) (*api.Token, int, api.Errno) {
	switch {
	case front && declRe.MatchString(s):
		end := strings.Index(s, "?>")
		if end < 0 {
			return nil, 0, api.ErrShort
		}
		return nil, end + 2, api.OK
	case strings.HasPrefix(s, "<!--"):
		return comment(s)
	case strings.HasPrefix(s, "<![CDATA["):
		m := rawRe.FindStringSubmatch(s)
		if m == nil {
			return nil, 0, api.ErrShort
		}
		if m[1] == "" {
			return nil, len(m[0]), api.OK
		}
		return &api.Token{Kind: api.Text, S: regexp.MustCompile(`\r\n?`).ReplaceAllString(m[1], "\n")}, len(m[0]), api.OK
	case s[0] == '<' && len(s) > 1 && (s[1] == '!' || s[1] == '?'):
		return nil, 0, api.ErrXml
	case s[0] == '<':
		return tag(s)
	}
	return text(s)
}

func comment(s string) (*api.Token, int, api.Errno) {
	m := commRe.FindStringSubmatch(s)
	switch {
	case m == nil || m[2] == "":
		return nil, 0, api.ErrShort
	case m[2] == ">":
		return nil, len(m[0]), api.OK
	}
	return nil, 4 + len(m[1]), api.ErrXml
}

func text(s string) (*api.Token, int, api.Errno) {
	if end := strings.Index(s, "<"); end >= 0 {
		s = s[:end]
	}
	got, at, e := entity.Text(s)
	if i := strings.Index(s, "]]>"); i >= 0 && (e == api.OK || i < at) {
		return nil, i, api.ErrXml
	}
	return &api.Token{Kind: api.Text, S: got}, at, e
}

func tag(s string) (*api.Token, int, api.Errno) {
	m := frontRe.FindStringSubmatch(s)
	if m == nil {
		n := len("<")
		if strings.HasPrefix(s, "</") {
			n = len("</")
		}
		return nil, n, shortOrXml(s[n:])
	}
	at := len(m[0])
	x := &api.Token{S: m[1]}
	if !nameRe.MatchString(x.S) {
		return nil, at - len(x.S), api.ErrName
	}
	if s[1] == '/' {
		x.Kind = api.Close
		if end := closeRe.FindString(s[at:]); end != "" {
			return x, at + len(end), api.OK
		}
		n := at + len(form(`B*`).FindString(s[at:]))
		return nil, n, shortOrXml(s[n:])
	}
	for {
		m := attrRe.FindStringSubmatch(s[at:])
		if m == nil {
			break
		}
		name, value := m[1], m[2][1:len(m[2])-1]
		nat := at + strings.Index(m[0], name)
		if e := rightName(name, x.Attrs); e != api.OK {
			return nil, nat, e
		}
		got, n, e := entity.Value(value)
		if e != api.OK {
			return nil, at + len(m[0]) - len(value) - 1 + n, e
		}
		x.Attrs = append(x.Attrs, api.Pair{At: nat, Name: name, Value: got})
		at += len(m[0])
	}
	if end := closeRe.FindString(s[at:]); end != "" {
		return x, at + len(end), api.OK
	}
	if end := emptyRe.FindString(s[at:]); end != "" {
		x.Kind = api.Empty
		return x, at + len(end), api.OK
	}
	n, e := stop(s[at:], x.Attrs)
	return nil, at + n, e
}

// stop is the error with which a tag stops in which s stands behind attributes.
func stop(s string, ahead []api.Pair) (int, api.Errno) {
	for i, f := range stops {
		m := f.FindStringSubmatch(s)
		if m == nil {
			continue
		}
		if len(m) > 2 {
			if e := rightName(m[2], ahead); e != api.OK {
				return len(m[1]), e
			}
		}
		rest := s[len(m[0]):]
		if i == 0 { // a value without an end
			if _, n, e := entity.Value(rest); e != api.OK {
				return len(m[0]) + n, e
			}
			return 0, api.ErrShort
		}
		return len(m[0]), shortOrXml(rest)
	}
	panic("a tag that stops nowhere")
}

func rightName(s string, ahead []api.Pair) api.Errno {
	if !nameRe.MatchString(s) {
		return api.ErrName
	}
	for _, p := range ahead {
		if p.Name == s {
			return api.ErrTwice
		}
	}
	return api.OK
}

// shortOrXml is the error ahead of what is left, where that may not stand.
func shortOrXml(rest string) api.Errno {
	if rest == "" {
		return api.ErrShort
	}
	return api.ErrXml
}
