package xmltok

import (
	"tipstave/api"
	"tipstave/entity"
	"tipstave/names"
)

// Write are bytes of tokens, or which one is wrong.
func Write(l ...api.Token) ([]byte, int, api.Errno) {
	var w writer
	for i, t := range l {
		if e := w.token(t); e != api.OK {
			return nil, i, e
		}
	}
	return w.b, 0, api.OK
}

// writer is bytes that are written, and whether the last of them are a text's: another one behind that would be read as one with it.
type writer struct {
	b      []byte
	inText bool
}

func (w *writer) put(s string) {
	w.b = append(w.b, s...)
}

func (w *writer) token(t api.Token) api.Errno {
	behindText := w.inText
	w.inText = t.Kind == api.Text
	switch t.Kind {
	case api.Text:
		if behindText {
			return api.ErrArg
		}
		return w.text(t)
	case api.Close:
		return w.closing(t)
	case api.Open:
		return w.opening(t, ">")
	case api.Empty:
		return w.opening(t, "/>")
	}
	return api.ErrArg
}

func (w *writer) text(t api.Token) api.Errno {
	if t.S == "" || len(t.Attrs) > 0 {
		return api.ErrArg
	}
	s, e := entity.EscapeText(t.S)
	w.put(s)
	return e
}

func (w *writer) closing(t api.Token) api.Errno {
	if e := checkName(t.S); e != api.OK {
		return e
	}
	if len(t.Attrs) > 0 {
		return api.ErrArg
	}
	w.put("</" + t.S + ">")
	return api.OK
}

func (w *writer) opening(t api.Token, end string) api.Errno {
	if e := checkName(t.S); e != api.OK {
		return e
	}
	w.put("<" + t.S)
	ahead := map[string]bool{}
	for _, p := range t.Attrs {
		if e := w.attribute(p, ahead); e != api.OK {
			return e
		}
	}
	w.put(end)
	return api.OK
}

// attribute writes one, behind those of the names ahead in its tag.
func (w *writer) attribute(p api.Pair, ahead map[string]bool) api.Errno {
	if e := checkName(p.Name); e != api.OK {
		return e
	}
	if ahead[p.Name] {
		return api.ErrTwice
	}
	ahead[p.Name] = true
	value, e := entity.EscapeValue(p.Value)
	w.put(" " + p.Name + "=\"" + value + "\"")
	return e
}

func checkName(s string) api.Errno {
	_, _, e := names.Split(s)
	return e
}
