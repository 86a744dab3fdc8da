package order_test

import (
	"slices"
	"strings"
	"testing"

	"tipstave/api"
	"tipstave/order"
)

const many = 300000

// chain are things of which each needs the one behind it; the last needs those told.
func chain(n int, last ...int) [][]int {
	needs := make([][]int, n)
	for i := range needs {
		needs[i] = []int{i + 1}
	}
	needs[n-1] = last
	return needs
}

func holdMany(t *testing.T, what string, l []int, e api.Errno, want []int) {
	t.Helper()
	if e != api.OK || !slices.Equal(l, want) {
		t.Errorf("%s: %d things, %d", what, len(l), e)
	}
}

// P1, P14.1, P14.2: a very long row of things, each of which needs the next.
func TestDeep(t *testing.T) {
	names, all := make([]string, many), upTo(many)
	back := slices.Clone(all)
	slices.Reverse(back)
	l, e := order.Sort(names, chain(many))
	holdMany(t, "Sort", l, e, back)
	l, e = order.Stuck(chain(many))
	holdMany(t, "Stuck", l, e, nil)
	l, e = order.Reach(chain(many), 5)
	holdMany(t, "Reach", l, e, all[5:])
	ring := chain(many, 10)
	if l, e := order.Sort(names, ring); len(l) != 0 || e != api.ErrCycle {
		t.Error(len(l), e)
	}
	l, e = order.Stuck(ring)
	holdMany(t, "Stuck of a ring", l, e, all)
	l, e = order.Reach(ring, 20)
	holdMany(t, "Reach of a ring", l, e, all[10:])
}

// P1, P14.1, P14.2: one that needs very many, and very many that need one; the same need very often.
func TestWide(t *testing.T) {
	names, all := make([]string, many), upTo(many)
	needs := make([][]int, many)
	needs[0] = slices.Repeat(all[1:], 3)
	l, e := order.Sort(names, needs)
	holdMany(t, "Sort of one that needs all", l, e, append(slices.Clone(all[1:]), 0))
	l, e = order.Reach(needs, 0)
	holdMany(t, "Reach of one that needs all", l, e, all)
	l, e = order.Reach(needs, 7)
	holdMany(t, "Reach of one that needs none", l, e, []int{7})
	for i := range needs {
		needs[i] = []int{many - 1, many - 1}
	}
	l, e = order.Stuck(needs)
	holdMany(t, "Stuck", l, e, all)
	needs[many-1] = nil
	l, e = order.Sort(names, needs)
	holdMany(t, "Sort of many that need one", l, e, append([]int{many - 1}, all[:many-1]...))
}

// P1, P14.2: what needs what many need, on and on, is gone through but once.
func TestManyWays(t *testing.T) {
	const n = 2000
	needs := make([][]int, n)
	for i := range needs {
		needs[i] = upTo(i)
	}
	l, e := order.Reach(needs, n-1)
	holdMany(t, "Reach", l, e, upTo(n))
	l, e = order.Stuck(needs)
	holdMany(t, "Stuck", l, e, nil)
	l, e = order.Sort(make([]string, n), needs)
	holdMany(t, "Sort", l, e, upTo(n))
}

// P1, P14.1: a few very long names that are the same nearly to their ends stand last, while very many are laid ahead of them.
func TestLongNames(t *testing.T) {
	long := strings.Repeat("z", 1<<21)
	names := []string{long + "b", long + "c", long + "a", long}
	for range 100000 {
		names = append(names, "a")
	}
	l, e := order.Sort(names, make([][]int, len(names)))
	holdMany(t, "Sort", l, e, append(upTo(len(names))[4:], 3, 2, 0, 1))
}
