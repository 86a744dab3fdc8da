package expr

import "tipstave/api"

// trail goes through an expression and all its parts, at any depth, each ahead of its parts: by a list and no recursion, since expressions that are handed in may be deeper than the stack.
type trail struct {
	left [][]api.Expr // the parts that are left, of each expression that is gone through
}

func begin(x api.Expr) *trail {
	return &trail{left: [][]api.Expr{{x}}}
}

// next is the next expression: nil, if there is none.
func (t *trail) next() *api.Expr {
	for len(t.left) > 0 {
		last := len(t.left) - 1
		if parts := t.left[last]; len(parts) > 0 {
			t.left[last] = parts[1:]
			t.left = append(t.left, parts[0].L)
			return &parts[0]
		}
		t.left = t.left[:last]
	}
	return nil
}

// deep is how deep the expression stands that was the next one last.
func (t *trail) deep() int {
	return len(t.left) - 1
}

// tooDeep looks no deeper than need be.
func tooDeep(x api.Expr) bool {
	t := begin(x)
	for t.next() != nil {
		if t.deep() > api.MaxDepth {
			return true
		}
	}
	return false
}
