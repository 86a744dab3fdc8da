package scope

import (
	"iter"
	"slices"
	"sort"
	"strings"

	"tipstave/names"
)

func wrong(name string) bool {
	return !names.Right(name)
}

// within is a scope of rising names, none of them this one's, and of this one's.
func (s *Scope) within(own []string) *Scope {
	count := s.Len() + len(own)
	// An outer one with few names is taken in: so each has more than twice as many names as the one within it, and the chain stays short, however often names are added one by one.
	for s != nil && len(s.own) <= 2*len(own) {
		own = slices.Collect(both(slices.Values(s.own), own))
		s = s.outer
	}
	// A copy, since the list that names came in may have been far longer than what is kept of it.
	return &Scope{outer: s, own: slices.Clone(own), count: count}
}

// both are the names of two rising rows, rising.
func both(others iter.Seq[string], own []string) iter.Seq[string] {
	return func(yield func(string) bool) {
		rest := own
		for other := range others {
			for len(rest) > 0 && rest[0] < other {
				if !yield(rest[0]) {
					return
				}
				rest = rest[1:]
			}
			if !yield(other) {
				return
			}
		}
		for _, name := range rest {
			if !yield(name) {
				return
			}
		}
	}
}

// goingOn are those of rising names, all with the same front of so many bytes, that go on with a text there.
func goingOn(l []string, front int, text string) []string {
	from := sort.Search(len(l), func(i int) bool { return l[i][front:] >= text })
	l = l[from:]
	to := sort.Search(len(l), func(i int) bool { return !strings.HasPrefix(l[i][front:], text) })
	return l[:to]
}
