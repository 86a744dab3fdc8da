package xmlout_test

import (
	"regexp"
	"slices"
	"strconv"
	"strings"

	"tipstave/api"
)

// What the calls must answer, by the chapter's sentences: a tree is laid out as a list of its nodes, each with where it stands, and each of these is asked by itself; without a map.

const (
	xmlSpace   = "http://www.w3.org/XML/1998/namespace"
	xmlnsSpace = "http://www.w3.org/2000/xmlns/"
)

var (
	plainRe = regexp.MustCompile(`^[A-Za-z_\x{c0}-\x{d6}\x{d8}-\x{f6}\x{f8}-\x{d7ff}\x{e000}-\x{fffd}\x{10000}-\x{10ffff}][-.0-9\x{b7}A-Za-z_\x{c0}-\x{d6}\x{d8}-\x{f6}\x{f8}-\x{d7ff}\x{e000}-\x{fffd}\x{10000}-\x{10ffff}]*$`)
	fineRe  = regexp.MustCompile(`^[\t\n\r\x20-\x{d7ff}\x{e000}-\x{fffd}\x{10000}-\x{10ffff}]*$`)
)

// placed is a node, how deep it is, and whether the sibling ahead of it is a text node.
type placed struct {
	n          api.Node
	deep       int
	behindText bool
}

// inList are the nodes of a tree, each ahead of its children.
func inList(n api.Node) []placed {
	l := []placed{{n, 1, false}}
	for i := 0; i < len(l); i++ {
		if l[i].deep > 202 { // the nodes above are wrong
			continue
		}
		var kids []placed
		for k, kid := range l[i].n.Kids {
			kids = append(kids, placed{kid, l[i].deep + 1, k > 0 && l[i].n.Kids[k-1].Name.Local == ""})
		}
		l = slices.Insert(l, i+1, kids...)
	}
	return l
}

// fine asks whether a text is of characters that may be. (Wrong bytes are 65533 to a regular expression.)
func fine(s string) bool { return fineRe.MatchString(s) && strings.ToValidUTF8(s, "") == s }

func plain(s string) bool { return plainRe.MatchString(s) && fine(s) }

func spaceMayBe(s string) bool { return fine(s) && s != xmlnsSpace }

// toldCheck is what Check must answer.
func toldCheck(n api.Node) api.Errno {
	for _, p := range inList(n) {
		e := wrongElement(p)
		if p.n.Name.Local == "" {
			e = wrongText(p)
		}
		if e != api.OK {
			return e
		}
	}
	return api.OK
}

func wrongText(p placed) api.Errno {
	for _, wrong := range []bool{p.deep == 1, p.n.Text == "", len(p.n.Attrs) != 0, len(p.n.Kids) != 0, p.n.Name.Space != "", p.behindText} {
		if wrong {
			return api.ErrArg
		}
	}
	if !fine(p.n.Text) {
		return api.ErrUtf
	}
	return api.OK
}

func wrongElement(p placed) api.Errno {
	switch {
	case p.deep > 200:
		return api.ErrDeep
	case p.n.Text != "":
		return api.ErrArg
	case !plain(p.n.Name.Local):
		return api.ErrName
	case !spaceMayBe(p.n.Name.Space):
		return api.ErrSpace
	}
	for i, a := range p.n.Attrs {
		switch {
		case !plain(a.Name.Local):
			return api.ErrName
		case a.Name.Space == "" && a.Name.Local == "xmlns":
			return api.ErrArg
		case !spaceMayBe(a.Name.Space):
			return api.ErrSpace
		case slices.ContainsFunc(p.n.Attrs[:i], func(b api.Attr) bool { return a.Name == b.Name }):
			return api.ErrTwice
		case !fine(a.Value):
			return api.ErrUtf
		}
	}
	return api.OK
}

// toldSorted is what Sorted must answer: each attribute goes ahead of those that must stand behind it.
func toldSorted(n api.Node) api.Node {
	told := api.Node{At: n.At, Name: n.Name, Text: n.Text}
	for _, a := range n.Attrs {
		i := len(told.Attrs)
		for i > 0 && ahead(a.Name, told.Attrs[i-1].Name) {
			i--
		}
		told.Attrs = slices.Insert(told.Attrs, i, a)
	}
	for _, kid := range n.Kids {
		told.Kids = append(told.Kids, toldSorted(kid))
	}
	return told
}

func ahead(a, b api.Name) bool {
	return a.Space < b.Space || a.Space == b.Space && a.Local < b.Local
}

// toldPrefixes is what Prefixes must answer of a tree that is right.
func toldPrefixes(n api.Node) []api.Pair {
	var spaces []string
	for _, p := range inList(toldSorted(n)) {
		spaces = append(spaces, p.n.Name.Space)
		for _, a := range p.n.Attrs {
			spaces = append(spaces, a.Name.Space)
		}
	}
	var met []api.Pair
	number := 1
	for i, s := range spaces {
		if s == "" || slices.Contains(spaces[:i], s) {
			continue
		}
		p := api.Pair{Name: "n" + strconv.Itoa(number), Value: s}
		switch s {
		case "https://www.omg.org/spec/DMN/20211108/MODEL/":
			p.Name = "dmn"
		case xmlSpace:
			p.Name = "xml"
		default:
			number++
		}
		met = append(met, p)
	}
	return met
}

// toldBytes is what Write must answer of a tree that is right: the outermost tag is told by itself, and what gives the prefixes is laid into it.
func toldBytes(n api.Node) string {
	met := toldPrefixes(n)
	given := ""
	for _, p := range met {
		if p.Name != "xml" {
			given += " xmlns:" + p.Name + `="` + valueText(p.Value) + `"`
		}
	}
	whole := toldNode(toldSorted(n), met)
	name := "<" + toldName(n.Name, met)
	return name + given + strings.TrimPrefix(whole, name)
}

func toldNode(n api.Node, met []api.Pair) string {
	if n.Name.Local == "" {
		return nodeText(n.Text)
	}
	name := toldName(n.Name, met)
	s := "<" + name
	for _, a := range n.Attrs {
		s += " " + toldName(a.Name, met) + `="` + valueText(a.Value) + `"`
	}
	if len(n.Kids) == 0 {
		return s + "/>"
	}
	var kids strings.Builder
	for _, kid := range n.Kids {
		kids.WriteString(toldNode(kid, met))
	}
	return s + ">" + kids.String() + "</" + name + ">"
}

func toldName(n api.Name, met []api.Pair) string {
	for _, p := range met {
		if p.Value == n.Space {
			return p.Name + ":" + n.Local
		}
	}
	return n.Local
}

func nodeText(s string) string {
	return strings.NewReplacer("&", "&amp;", "<", "&lt;", ">", "&gt;", "\r", "&#13;").Replace(s)
}

func valueText(s string) string {
	return strings.NewReplacer("&", "&amp;", "<", "&lt;", ">", "&gt;", "\r", "&#13;", `"`, "&quot;", "\t", "&#9;", "\n", "&#10;").Replace(s)
}
