package order

import (
	"cmp"
	"container/heap"
	"slices"
	"strings"
)

// lay lays things, one by one, each when all that it needs is laid; of several that may be, the one that is ahead of the others in line is. What is stuck isn't among them.
func lay(needs [][]int, line []int) []int {
	place := places(line)
	missing, users := tally(needs)
	next := &ready{}
	for at, thing := range line {
		if missing[thing] == 0 {
			heap.Push(next, at)
		}
	}
	var laid []int
	for next.Len() > 0 {
		thing := line[heap.Pop(next).(int)]
		laid = append(laid, thing)
		for _, user := range users[thing] {
			missing[user]--
			if missing[user] == 0 {
				heap.Push(next, place[user])
			}
		}
	}
	return laid
}

// tally counts how many needs of each thing aren't laid when nothing is, and tells who needs it: one is there, in both, as often as in needs.
func tally(needs [][]int) (missing []int, users [][]int) {
	missing, users = make([]int, len(needs)), make([][]int, len(needs))
	for thing, row := range needs {
		missing[thing] = len(row)
		for _, n := range row {
			users[n] = append(users[n], thing)
		}
	}
	return missing, users
}

// numbers are those of so many things, in line by themselves.
func numbers(n int) []int {
	l := make([]int, n)
	for i := range l {
		l[i] = i
	}
	return l
}

// byName is the line of things by their names' bytes. They are held against each other here, and not in the heap, where two long ones may meet again and again.
func byName(names []string) []int {
	line := numbers(len(names))
	slices.SortFunc(line, func(a, b int) int {
		return cmp.Or(strings.Compare(names[a], names[b]), cmp.Compare(a, b))
	})
	return line
}

// places tells where in line each thing stands.
func places(line []int) []int {
	l := make([]int, len(line))
	for at, thing := range line {
		l[thing] = at
	}
	return l
}

// ready is the heap of what may be laid next: the places in line.
type ready []int

// Len is how many there are.
func (r ready) Len() int { return len(r) }

// Less asks whether one is ahead of another.
func (r ready) Less(i, j int) bool { return r[i] < r[j] }

// Swap changes places.
func (r ready) Swap(i, j int) { r[i], r[j] = r[j], r[i] }

// Push lays a place behind the others.
func (r *ready) Push(at any) { *r = append(*r, at.(int)) }

// Pop takes the one behind all others.
func (r *ready) Pop() any {
	last := len(*r) - 1
	at := (*r)[last]
	*r = (*r)[:last]
	return at
}
