package xmlout

import (
	"strconv"

	"tipstave/api"
	"tipstave/entity"
)

// The prefix that needs no attribute to give it, and its namespace.
const (
	xmlPrefix = "xml"
	xmlSpace  = "http://www.w3.org/XML/1998/namespace"
)

// meet tells the prefixes of a tree's namespaces, in the order in which these are met, and by the namespace.
func meet(n *api.Node) ([]api.Pair, map[string]string) {
	var met []api.Pair
	prefix := map[string]string{}
	others := 0
	eachSpace(n, func(space string) {
		if space == "" || prefix[space] != "" {
			return
		}
		switch space {
		case api.Uri:
			prefix[space] = "dmn"
		case xmlSpace:
			prefix[space] = xmlPrefix
		default:
			others++
			prefix[space] = "n" + strconv.Itoa(others)
		}
		met = append(met, api.Pair{Name: prefix[space], Value: space})
	})
	return met, prefix
}

// eachSpace tells the namespaces of a tree, from the front, each as often as it stands there; those that are none too.
func eachSpace(n *api.Node, tell func(space string)) {
	tell(n.Name.Space)
	for _, a := range n.Attrs {
		tell(a.Name.Space)
	}
	for i := range n.Kids {
		eachSpace(&n.Kids[i], tell)
	}
}

// writer writes a tree that is right, with its attributes in order.
type writer struct {
	prefix  map[string]string // by the namespace
	written []byte
}

// element writes one; given are the prefixes that are given in it.
func (w *writer) element(n *api.Node, given []api.Pair) {
	name := w.name(n.Name)
	w.put("<" + name)
	for _, p := range given {
		if p.Name != xmlPrefix {
			w.attribute("xmlns:"+p.Name, p.Value)
		}
	}
	for _, a := range n.Attrs {
		w.attribute(w.name(a.Name), a.Value)
	}
	if len(n.Kids) == 0 {
		w.put("/>")
		return
	}
	w.put(">")
	for i := range n.Kids {
		w.kid(&n.Kids[i])
	}
	w.put("</" + name + ">")
}

func (w *writer) kid(n *api.Node) {
	if !isText(n) {
		w.element(n, nil)
		return
	}
	escaped, _ := entity.EscapeText(n.Text) // no error is left where the tree is right
	w.put(escaped)
}

func (w *writer) attribute(name, value string) {
	escaped, _ := entity.EscapeValue(value)
	w.put(" " + name + `="` + escaped + `"`)
}

// name is one with its prefix, if it has one.
func (w *writer) name(n api.Name) string {
	if n.Space == "" {
		return n.Local
	}
	return w.prefix[n.Space] + ":" + n.Local
}

func (w *writer) put(s string) { w.written = append(w.written, s...) }
