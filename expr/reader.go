package expr

import (
	"tipstave/api"
	"tipstave/scope"
)

// reader goes through an expression from the front, and knows which names are in scope where it is.
type reader struct {
	outer *scope.Scope
	met   map[string]int              // names that are in scope and not the outer's, and how often each was met
	most  int                         // so many may be in scope
	lack  func(name string) api.Errno // is told each name that isn't in scope
}

// read goes through an expression that isn't too deep, up to the first error.
func (r *reader) read(x *api.Expr) api.Errno {
	if x.Kind == api.NameExpr && !r.has(x.S) {
		if e := r.lack(x.S); e != api.OK {
			return e
		}
	}
	for i := range x.L {
		r.meet(brought(x, i))
		if r.outer.Len()+len(r.met) > r.most {
			return api.ErrLong
		}
		if e := r.read(&x.L[i]); e != api.OK {
			return e
		}
	}
	for i := range x.L {
		r.leave(brought(x, i))
	}
	return api.OK
}

// brought are the names that come into scope ahead of a part, and stay there up to the last part's end.
func brought(x *api.Expr, part int) []string {
	switch x.Kind {
	case api.ForExpr, api.SomeExpr, api.EveryExpr:
		if part == 1 {
			return []string{x.S}
		}
	case api.FilterExpr:
		if part == 1 {
			return []string{"item"}
		}
	case api.FuncExpr:
		if part == 0 {
			return x.Names
		}
	case api.MapExpr:
		if part > 0 && part <= len(x.Names) { // a wrong one may have fewer
			return x.Names[part-1 : part]
		}
	}
	return nil
}

func (r *reader) has(name string) bool {
	return r.met[name] > 0 || r.outer.Has(name)
}

func (r *reader) meet(l []string) {
	for _, name := range l {
		if !r.outer.Has(name) {
			r.met[name]++
		}
	}
}

func (r *reader) leave(l []string) {
	for _, name := range l {
		if r.met[name] > 1 {
			r.met[name]--
		} else {
			delete(r.met, name)
		}
	}
}
