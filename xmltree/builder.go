package xmltree

import (
	"strings"

	"tipstave/api"
)

// blanks are the characters that may stand outside the outermost element.
const blanks = "\t\n\r "

// builder is what the tokens up to now told.
type builder struct {
	open      []element   // the innermost one last
	texts     []api.Token // one behind the other, and no node yet
	outermost api.Node
	done      bool // the outermost element has ended
}

// element is one that is open: its name as it is written, and the namespaces that are given in it.
type element struct {
	node    api.Node
	written string
	given   spaces
}

// token takes the next one, or tells where it is wrong.
func (b *builder) token(t api.Token) (int, api.Errno) {
	if t.Kind == api.Text {
		return t.At, b.text(t)
	}
	b.endTexts()
	switch t.Kind {
	case api.Open, api.Empty:
		return b.begin(t)
	case api.Close:
		return t.At, b.end(t)
	}
	return t.At, api.ErrArg
}

func (b *builder) text(t api.Token) api.Errno {
	if len(b.open) > 0 {
		b.texts = append(b.texts, t)
		return api.OK
	}
	if strings.Trim(t.S, blanks) != "" {
		return api.ErrXml
	}
	return api.OK
}

// endTexts makes one node of the texts that stand one behind the other.
func (b *builder) endTexts() {
	if len(b.texts) == 0 {
		return
	}
	var whole strings.Builder
	for _, t := range b.texts {
		whole.WriteString(t.S)
	}
	b.add(api.Node{At: b.texts[0].At, Text: whole.String()})
	b.texts = b.texts[:0]
}

// add lays a node that is whole into the element that is open around it.
func (b *builder) add(n api.Node) {
	if len(b.open) == 0 {
		b.outermost, b.done = n, true
		return
	}
	around := &b.open[len(b.open)-1].node
	around.Kids = append(around.Kids, n)
}

// begin takes an Open or an Empty.
func (b *builder) begin(t api.Token) (int, api.Errno) {
	if b.done {
		return t.At, api.ErrXml
	}
	if len(b.open) == api.MaxDepth {
		return t.At, api.ErrDeep
	}
	given, at, e := b.given().within(t.Attrs)
	if e != api.OK {
		return at, e
	}
	name, e := given.name(t.S, given[""])
	if e != api.OK {
		return t.At, e
	}
	attrs, at, e := given.attributes(t.Attrs)
	if e != api.OK {
		return at, e
	}
	n := api.Node{At: t.At, Name: name, Attrs: attrs}
	if t.Kind == api.Empty {
		b.add(n)
	} else {
		b.open = append(b.open, element{n, t.S, given})
	}
	return 0, api.OK
}

// given are the namespaces where the next token stands.
func (b *builder) given() spaces {
	if len(b.open) == 0 {
		return atFirst()
	}
	return b.open[len(b.open)-1].given
}

// end takes a Close.
func (b *builder) end(t api.Token) api.Errno {
	last := len(b.open) - 1
	if last < 0 || b.open[last].written != t.S {
		return api.ErrXml
	}
	whole := b.open[last].node
	b.open = b.open[:last]
	b.add(whole)
	return api.OK
}
