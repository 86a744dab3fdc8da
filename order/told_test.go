package order_test

import (
	"slices"

	"tipstave/api"
)

// What must be answered, by the chapter's sentences: here each thing that isn't laid yet is looked at again and again, and who needs whom is a table of all pairs.

func outside(needs [][]int, n int) bool { return n < 0 || n >= len(needs) }

func anyOutside(needs [][]int) bool {
	return slices.ContainsFunc(needs, func(row []int) bool {
		return slices.ContainsFunc(row, func(n int) bool { return outside(needs, n) })
	})
}

// toldAll tells of each thing which ones it needs, itself or by others.
func toldAll(needs [][]int) [][]bool {
	all := make([][]bool, len(needs))
	for i, row := range needs {
		all[i] = make([]bool, len(needs))
		for _, n := range row {
			all[i][n] = true
		}
	}
	for k := range all {
		for i := range all {
			for j := range all {
				all[i][j] = all[i][j] || all[i][k] && all[k][j]
			}
		}
	}
	return all
}

func toldSort(names []string, needs [][]int) ([]int, api.Errno) {
	if len(names) != len(needs) {
		return nil, api.ErrArg
	}
	if anyOutside(needs) {
		return nil, api.ErrRange
	}
	for i, row := range toldAll(needs) {
		if row[i] {
			return nil, api.ErrCycle
		}
	}
	var laid []int
	for len(laid) < len(needs) {
		best := -1
		for i := range needs {
			if mayBeLaid(laid, needs, i) && (best < 0 || isLess([]byte(names[i]), []byte(names[best]))) {
				best = i
			}
		}
		laid = append(laid, best)
	}
	return laid, api.OK
}

func mayBeLaid(laid []int, needs [][]int, i int) bool {
	for _, n := range needs[i] {
		if !slices.Contains(laid, n) {
			return false
		}
	}
	return !slices.Contains(laid, i)
}

// isLess holds two names against each other, byte by byte.
func isLess(a, b []byte) bool {
	for i := range a {
		if i == len(b) || a[i] > b[i] {
			return false
		}
		if a[i] < b[i] {
			return true
		}
	}
	return len(a) < len(b)
}

func toldStuck(needs [][]int) ([]int, api.Errno) {
	if anyOutside(needs) {
		return nil, api.ErrRange
	}
	all := toldAll(needs)
	var l []int
	for i := range all {
		for j := range all {
			if all[j][j] && (i == j || all[i][j]) {
				l = append(l, i)
				break
			}
		}
	}
	return l, api.OK
}

func toldReach(needs [][]int, from int) ([]int, api.Errno) {
	if anyOutside(needs) || outside(needs, from) {
		return nil, api.ErrRange
	}
	row := toldAll(needs)[from]
	var l []int
	for i := range row {
		if i == from || row[i] {
			l = append(l, i)
		}
	}
	return l, api.OK
}
