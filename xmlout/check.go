package xmlout

import (
	"tipstave/api"
	"tipstave/names"
	"tipstave/utf"
)

// xmlnsSpace is the namespace that no name may have.
const xmlnsSpace = "http://www.w3.org/2000/xmlns/"

// Check tells what is wrong with a tree.
func Check(n api.Node) api.Errno {
	if isText(&n) {
		return api.ErrArg
	}
	return checkElement(&n, 1)
}

func isText(n *api.Node) bool { return n.Name.Local == "" }

// checkElement goes no deeper than may be, whatever is handed in: a deeper element is wrong ahead of its children, and so is a text node that has any.
func checkElement(n *api.Node, deep int) api.Errno {
	if deep > api.MaxDepth {
		return api.ErrDeep
	}
	if n.Text != "" {
		return api.ErrArg
	}
	if e := checkName(n.Name); e != api.OK {
		return e
	}
	if e := checkAttributes(n.Attrs); e != api.OK {
		return e
	}
	return checkKids(n.Kids, deep+1)
}

func checkName(name api.Name) api.Errno {
	switch {
	case !names.Plain(name.Local):
		return api.ErrName
	case !mayBe(name.Space) || name.Space == xmlnsSpace:
		return api.ErrSpace
	}
	return api.OK
}

// mayBe asks whether a text is of characters that may be.
func mayBe(s string) bool {
	_, e := utf.Check([]byte(s))
	return e == api.OK
}

func checkAttributes(attrs []api.Attr) api.Errno {
	ahead := make(map[api.Name]bool, len(attrs))
	for _, a := range attrs {
		if a.Name == (api.Name{Local: "xmlns"}) { // read, it would be no attribute: it would give a namespace
			return api.ErrArg
		}
		if e := checkName(a.Name); e != api.OK {
			return e
		}
		if ahead[a.Name] {
			return api.ErrTwice
		}
		if !mayBe(a.Value) {
			return api.ErrUtf
		}
		ahead[a.Name] = true
	}
	return api.OK
}

func checkKids(kids []api.Node, deep int) api.Errno {
	behindText := false
	for i := range kids {
		kid := &kids[i]
		var e api.Errno
		if isText(kid) {
			e = checkText(kid, behindText)
		} else {
			e = checkElement(kid, deep)
		}
		if e != api.OK {
			return e
		}
		behindText = isText(kid)
	}
	return api.OK
}

// checkText tells what is wrong with a text node that isn't the whole.
func checkText(n *api.Node, behindText bool) api.Errno {
	switch {
	case n.Text == "" || len(n.Attrs) > 0 || len(n.Kids) > 0 || n.Name.Space != "" || behindText:
		return api.ErrArg
	case !mayBe(n.Text):
		return api.ErrUtf
	}
	return api.OK
}
