package xmltree_test

import (
	"regexp"
	"slices"
	"strings"

	"tipstave/api"
)

// What Build must answer, by the chapter's sentences: each token is asked afresh, of those ahead of it, without a map or a copy.

const (
	xmlSpace   = "http://www.w3.org/XML/1998/namespace"
	xmlnsSpace = "http://www.w3.org/2000/xmlns/"
)

var (
	blankRe = regexp.MustCompile(`^[\x09\x0a\x0d\x20]*$`)
	giverRe = regexp.MustCompile(`^xmlns(:(.*))?$`)
)

// told is what Build must answer.
func told(l []api.Token, end int) (api.Node, int, api.Errno) {
	for i := range l {
		if at, e := wrong(l, i); e != api.OK {
			return api.Node{}, at, e
		}
	}
	if len(around(l, len(l))) > 0 || !slices.ContainsFunc(l, opens) {
		return api.Node{}, end, api.ErrShort
	}
	i := slices.IndexFunc(l, opens)
	n, _ := element(l, i)
	return n, end, api.OK
}

func opens(t api.Token) bool { return t.Kind == api.Open || t.Kind == api.Empty }

// around are the places in l of the Opens in which the token at i stands, the innermost one last; all ahead of it is right.
func around(l []api.Token, i int) []int {
	var open []int
	for k, t := range l[:i] {
		switch t.Kind {
		case api.Open:
			open = append(open, k)
		case api.Close:
			open = open[:len(open)-1]
		}
	}
	return open
}

// wrong is what is wrong with the token at i, where all ahead of it is right.
func wrong(l []api.Token, i int) (int, api.Errno) {
	t, open := l[i], around(l, i)
	switch t.Kind {
	case api.Text:
		if len(open) == 0 && !blankRe.MatchString(t.S) {
			return t.At, api.ErrXml
		}
	case api.Close:
		if len(open) == 0 || l[open[len(open)-1]].S != t.S {
			return t.At, api.ErrXml
		}
	default:
		if len(open) == 0 && slices.ContainsFunc(l[:i], opens) {
			return t.At, api.ErrXml
		}
		if len(open)+1 > 200 {
			return t.At, api.ErrDeep
		}
		return wrongNames(l, i)
	}
	return 0, api.OK
}

// wrongNames is what is wrong with the namespaces of the tag at i.
func wrongNames(l []api.Token, i int) (int, api.Errno) {
	t := l[i]
	for _, p := range t.Attrs {
		m := giverRe.FindStringSubmatch(p.Name)
		if m == nil {
			continue
		}
		if m[2] == "xml" || m[2] == "xmlns" || m[1] != "" && p.Value == "" || p.Value == xmlSpace || p.Value == xmlnsSpace {
			return p.At, api.ErrArg
		}
	}
	if _, ok := elementName(l, i); !ok {
		return t.At, api.ErrSpace
	}
	for k, p := range t.Attrs {
		if giverRe.MatchString(p.Name) {
			continue
		}
		name, ok := attrName(l, i, p.Name)
		if !ok {
			return p.At, api.ErrSpace
		}
		for _, q := range t.Attrs[:k] {
			if other, _ := attrName(l, i, q.Name); other == name && !giverRe.MatchString(q.Name) {
				return p.At, api.ErrTwice
			}
		}
	}
	return 0, api.OK
}

func elementName(l []api.Token, i int) (api.Name, bool) {
	prefix, local, prefixed := strings.Cut(l[i].S, ":")
	if !prefixed {
		space, _ := given(l, i, "xmlns")
		return api.Name{Space: space, Local: prefix}, true
	}
	space, ok := given(l, i, "xmlns:"+prefix)
	return api.Name{Space: space, Local: local}, ok
}

func attrName(l []api.Token, i int, s string) (api.Name, bool) {
	prefix, local, prefixed := strings.Cut(s, ":")
	if !prefixed {
		return api.Name{Local: s}, true
	}
	space, ok := given(l, i, "xmlns:"+prefix)
	return api.Name{Space: space, Local: local}, ok
}

// given is the value of the innermost attribute of a name, of the tag at i and those in which it stands.
func given(l []api.Token, i int, attr string) (string, bool) {
	for _, k := range slices.Backward(append(around(l, i), i)) {
		for _, p := range l[k].Attrs {
			if p.Name == attr {
				return p.Value, true
			}
		}
	}
	if attr == "xmlns:xml" {
		return xmlSpace, true
	}
	return "", false
}

// element is the one whose tag stands at i, and the place in l behind it; all is right.
func element(l []api.Token, i int) (api.Node, int) {
	n := api.Node{At: l[i].At}
	n.Name, _ = elementName(l, i)
	for _, p := range l[i].Attrs {
		if !giverRe.MatchString(p.Name) {
			name, _ := attrName(l, i, p.Name)
			n.Attrs = append(n.Attrs, api.Attr{Name: name, Value: p.Value})
		}
	}
	if l[i].Kind == api.Empty {
		return n, i + 1
	}
	for i++; l[i].Kind != api.Close; {
		last := len(n.Kids) - 1
		switch {
		case opens(l[i]):
			kid, behind := element(l, i)
			n.Kids, i = append(n.Kids, kid), behind
			continue
		case l[i-1].Kind == api.Text:
			n.Kids[last].Text += l[i].S
		default:
			n.Kids = append(n.Kids, api.Node{At: l[i].At, Text: l[i].S})
		}
		i++
	}
	return n, i + 1
}
