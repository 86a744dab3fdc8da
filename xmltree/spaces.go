package xmltree

import (
	"maps"
	"slices"
	"strings"

	"tipstave/api"
	"tipstave/names"
)

// The namespaces that no attribute may give.
const (
	xmlSpace   = "http://www.w3.org/XML/1998/namespace"
	xmlnsSpace = "http://www.w3.org/2000/xmlns/"
)

// spaces are the namespaces that are given to prefixes: that of elements without one stands at the empty prefix.
type spaces map[string]string

// atFirst are the namespaces that are given where no attribute gives any.
func atFirst() spaces {
	return spaces{"": "", "xml": xmlSpace}
}

// within are the namespaces in an element that has such attributes; those around it stay as they are.
func (s spaces) within(attrs []api.Pair) (spaces, int, api.Errno) {
	if !slices.ContainsFunc(attrs, gives) { // most elements: they need no copy
		return s, 0, api.OK
	}
	inner := maps.Clone(s)
	for _, p := range attrs {
		if !gives(p) {
			continue
		}
		if !mayGive(p) {
			return nil, p.At, api.ErrArg
		}
		inner[givenTo(p)] = p.Value
	}
	return inner, 0, api.OK
}

// name is the name that is written so, where one without a prefix is of the namespace bare: elements are given another than attributes.
func (s spaces) name(written, bare string) (api.Name, api.Errno) {
	prefix, local, e := names.Split(written)
	if e != api.OK {
		return api.Name{}, e
	}
	if prefix == "" {
		return api.Name{Space: bare, Local: local}, api.OK
	}
	space, given := s[prefix]
	if !given {
		return api.Name{}, api.ErrSpace
	}
	return api.Name{Space: space, Local: local}, api.OK
}

// attributes are an element's, but those that give namespaces.
func (s spaces) attributes(l []api.Pair) ([]api.Attr, int, api.Errno) {
	var attrs []api.Attr
	ahead := map[api.Name]bool{}
	for _, p := range l {
		if gives(p) {
			continue
		}
		name, e := s.name(p.Name, "")
		if e != api.OK {
			return nil, p.At, e
		}
		if ahead[name] {
			return nil, p.At, api.ErrTwice
		}
		ahead[name] = true
		attrs = append(attrs, api.Attr{Name: name, Value: p.Value})
	}
	return attrs, 0, api.OK
}

// gives asks whether an attribute gives a namespace.
func gives(p api.Pair) bool {
	return p.Name == "xmlns" || strings.HasPrefix(p.Name, "xmlns:")
}

// givenTo is the prefix to which an attribute gives a namespace.
func givenTo(p api.Pair) string {
	_, prefix, _ := strings.Cut(p.Name, ":")
	return prefix
}

// mayGive asks whether an attribute that gives a namespace may do so.
func mayGive(p api.Pair) bool {
	if p.Value == xmlSpace || p.Value == xmlnsSpace {
		return false
	}
	switch givenTo(p) {
	case "":
		return true
	case "xml", "xmlns":
		return false
	}
	return p.Value != ""
}
