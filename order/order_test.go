package order_test

import (
	"math"
	"math/rand"
	"slices"
	"sync"
	"testing"

	"tipstave/api"
	"tipstave/order"
	"tipstave/testaid"
)

// hold asks all three calls, and holds what they answer against what is told.
func hold(t *testing.T, names []string, needs [][]int) {
	t.Helper()
	holdSort(t, names, needs)
	got, e := order.Stuck(needs)
	if want, no := toldStuck(needs); e != no || !slices.Equal(got, want) {
		t.Fatalf("Stuck(%v): %v, %d, not %v, %d", needs, got, e, want, no)
	}
	for from := -1; from <= len(needs); from++ {
		holdReach(t, needs, from)
	}
}

func holdSort(t *testing.T, names []string, needs [][]int) {
	t.Helper()
	got, e := order.Sort(names, needs)
	if want, no := toldSort(names, needs); e != no || !slices.Equal(got, want) {
		t.Fatalf("Sort(%q, %v): %v, %d, not %v, %d", names, needs, got, e, want, no)
	}
}

func holdReach(t *testing.T, needs [][]int, from int) {
	t.Helper()
	got, e := order.Reach(needs, from)
	if want, no := toldReach(needs, from); e != no || !slices.Equal(got, want) {
		t.Fatalf("Reach(%v, %d): %v, %d, not %v, %d", needs, from, got, e, want, no)
	}
}

// holdSorted asks Sort alone, where the order is known.
func holdSorted(t *testing.T, names []string, needs [][]int, want ...int) {
	t.Helper()
	if got, e := order.Sort(names, needs); e != api.OK || !slices.Equal(got, want) {
		t.Errorf("Sort(%.40q, %v): %v, %d, not %v", names, needs, got, e, want)
	}
}

// P14.1: the examples.
func TestExamples(t *testing.T) {
	holdSorted(t, []string{"b", "a", "c"}, [][]int{{2}, nil, nil}, 1, 2, 0)
	if l, e := order.Sort([]string{"a", "b"}, [][]int{{1}, {0}}); len(l) != 0 || e != api.ErrCycle {
		t.Error(l, e)
	}
}

// P14.1, P14.2: no things at all, and one.
func TestFew(t *testing.T) {
	hold(t, nil, nil)
	hold(t, []string{}, [][]int{})
	hold(t, []string{""}, [][]int{nil})
	hold(t, []string{"a"}, [][]int{{}})
	hold(t, []string{"a"}, [][]int{{0}})
	hold(t, []string{"a"}, [][]int{{0, 0}})
}

// P14.1: again and again it is the least of those that may be laid by then, not of those that may be laid at first, nor all of these ahead of others.
func TestAgainAndAgain(t *testing.T) {
	holdSorted(t, []string{"d", "a", "c", "b"}, [][]int{nil, {3}, nil, nil}, 3, 1, 2, 0)
	holdSorted(t, []string{"a", "b", "z", "c"}, [][]int{{2}, nil, nil, nil}, 1, 3, 2, 0)
	holdSorted(t, []string{"a", "b", "c", "d"}, [][]int{{3, 3}, {0}, nil, nil}, 2, 3, 0, 1)
	holdSorted(t, []string{"a", "b", "c"}, [][]int{{1}, {2}, nil}, 2, 1, 0)
	holdSorted(t, []string{"c", "b", "a"}, [][]int{nil, {0}, {1}}, 0, 1, 2)
}

// P14.1: of several of one name, the least number, whatever comes between.
func TestSameNames(t *testing.T) {
	holdSorted(t, []string{"b", "a", "b", "a", "b"}, make([][]int, 5), 1, 3, 0, 2, 4)
	holdSorted(t, []string{"a", "a", "a"}, [][]int{{2}, nil, nil}, 1, 2, 0)
	holdSorted(t, []string{"a", "a", "a", "a"}, [][]int{{3}, {3}, nil, nil}, 2, 3, 0, 1)
	holdSorted(t, []string{"", "", ""}, [][]int{{1}, nil, nil}, 1, 0, 2)
	const n = 200
	holdSorted(t, slices.Repeat([]string{"a"}, n), make([][]int, n), upTo(n)...)
}

func upTo(n int) []int {
	l := make([]int, n)
	for i := range l {
		l[i] = i
	}
	return l
}

// P14.1: names are held against each other by their bytes, be these characters or not.
func TestBytes(t *testing.T) {
	rising := []string{"", "\x00", "\x00a", "\t", " ", " a", "10", "9", "A", "B", "Z", "_", "a", "a\x00", "a b", "aa", "ab", "b", "\x7f", "\x80", "\xbf", "\u00e4", "\u0416", "\uffff", "\U00010000", "\xfe", "\xff", "\xff\xff"}
	r := rand.New(rand.NewSource(3))
	for range 200 {
		at := r.Perm(len(rising))
		names, want := make([]string, len(at)), make([]int, len(at))
		for i, k := range at {
			names[i], want[k] = rising[k], i
		}
		holdSorted(t, names, make([][]int, len(at)), want...)
	}
}

// P14.1, P14.2, P14.3: all needs of up to three things, in either order and twice, and all of four.
func TestEveryNeeds(t *testing.T) {
	for n := range 4 {
		var rows [][]int
		testaid.EveryRow(upTo(n), 2, func(row []int) { rows = append(rows, slices.Clone(row)) })
		testaid.EveryRow(rows, n, func(needs [][]int) {
			if len(needs) == n {
				hold(t, []string{"b", "a", "b"}[:n], needs)
			}
		})
	}
	for _, needs := range everyTable(4) {
		hold(t, []string{"c", "a", "d", "b"}, needs)
	}
}

// everyTable are all needs of so many things: each of them needs each, or doesn't.
func everyTable(n int) [][][]int {
	var l [][][]int
	for bits := range 1 << (n * n) {
		needs := make([][]int, n)
		for i := range n * n {
			if bits>>i&1 == 1 {
				needs[i/n] = append(needs[i/n], i%n)
			}
		}
		l = append(l, needs)
	}
	return l
}

// P14.1, P14.3: all names, of three, by all needs in which nothing needs itself; of these there are 1, 1, 3, 25, 543.
func TestEveryName(t *testing.T) {
	right := make([][][][]int, 5)
	for n, want := range []int{1, 1, 3, 25, 543} {
		for _, needs := range everyTable(n) {
			if l, e := order.Stuck(needs); e == api.OK && len(l) == 0 {
				right[n] = append(right[n], needs)
			}
		}
		if len(right[n]) != want {
			t.Errorf("%d of %d things, not %d", len(right[n]), n, want)
		}
	}
	testaid.EveryRow([]string{"", "a", "b"}, 4, func(names []string) {
		for _, needs := range right[len(names)] {
			holdSort(t, names, needs)
		}
	})
}

// P14.1, P14.2: numbers that are none of a thing, wherever they stand.
func TestEveryOutside(t *testing.T) {
	for n := range 3 {
		var rows [][]int
		testaid.EveryRow([]int{math.MinInt, -1, 0, 1, 2, math.MaxInt}, 2, func(row []int) { rows = append(rows, slices.Clone(row)) })
		testaid.EveryRow(rows, n, func(needs [][]int) {
			hold(t, []string{"a", "b"}[:len(needs)], needs)
			for _, from := range []int{math.MinInt, math.MaxInt} {
				holdReach(t, needs, from)
			}
		})
	}
}

// P14.2: a number that is none of a thing is wrong, be it reached or not.
func TestOutsideNotReached(t *testing.T) {
	for _, wrong := range []int{-1, 3} {
		for i := range 3 {
			needs := [][]int{nil, nil, nil}
			needs[i] = []int{0, wrong}
			for from := range 3 {
				if l, e := order.Reach(needs, from); len(l) != 0 || e != api.ErrRange {
					t.Error(needs, from, l, e)
				}
			}
			if l, e := order.Stuck(needs); len(l) != 0 || e != api.ErrRange {
				t.Error(needs, l, e)
			}
		}
	}
}

// P14.1: ErrArg goes ahead of ErrRange, and this one ahead of ErrCycle.
func TestOrderOfErrors(t *testing.T) {
	for _, c := range []struct {
		names []string
		needs [][]int
		want  api.Errno
	}{
		{nil, [][]int{nil}, api.ErrArg},
		{[]string{"a"}, nil, api.ErrArg},
		{[]string{"a"}, [][]int{{1}, nil}, api.ErrArg},
		{[]string{"a", "b", "c"}, [][]int{{2}, nil}, api.ErrArg},
		{[]string{"a"}, [][]int{{0}, {7}}, api.ErrArg},
		{[]string{"a", "b"}, [][]int{{0}, {7}}, api.ErrRange},
		{[]string{"a", "b"}, [][]int{{1}, {0, -1}}, api.ErrRange},
		{[]string{"a", "b"}, [][]int{{1}, {0}}, api.ErrCycle},
	} {
		if l, e := order.Sort(c.names, c.needs); len(l) != 0 || e != c.want {
			t.Errorf("Sort(%q, %v): %v, %d, not %d", c.names, c.needs, l, e, c.want)
		}
	}
}

// P14.2: what stands on what is stuck is stuck, too; what it stands on isn't.
func TestStuck(t *testing.T) {
	for _, c := range []struct {
		needs [][]int
		want  []int
	}{
		{[][]int{{1}, {2}, {1}, {4}, nil, {5, 3}}, []int{0, 1, 2, 5}},
		{[][]int{{1}, {1}, {0, 3}, nil}, []int{0, 1, 2}},
		{[][]int{{1, 2}, {0}, nil}, []int{0, 1}},
		{[][]int{{1}, {2}, {3}, nil}, nil},
	} {
		if l, e := order.Stuck(c.needs); e != api.OK || !slices.Equal(l, c.want) {
			t.Error(c.needs, l, e)
		}
	}
}

// anyNeeds are needs of so many things: none of a thing that isn't ahead of it in a hidden row, but for as many as told.
func anyNeeds(r *rand.Rand, n, most, wrong int) [][]int {
	at := r.Perm(n)
	needs := make([][]int, n)
	for i, thing := range at {
		for range r.Intn(most + 1) {
			if i > 0 {
				needs[thing] = append(needs[thing], at[r.Intn(i)])
			}
		}
	}
	for range wrong {
		i := r.Intn(n)
		needs[i] = append(needs[i], r.Intn(n))
	}
	return needs
}

func anyNames(r *rand.Rand, n, most int) []string {
	names := make([]string, n)
	for i := range names {
		b := make([]byte, r.Intn(most+1))
		for k := range b {
			b[k] = []byte{'a', 'b', ' ', 0xc3, 0xff}[r.Intn(5)]
		}
		names[i] = string(b)
	}
	return names
}

// P14.1, P14.2, P14.3: things by chance, with cycles and without.
func TestChance(t *testing.T) {
	r := rand.New(rand.NewSource(1))
	for range 6000 {
		n := 1 + r.Intn(14)
		hold(t, anyNames(r, n, 3), anyNeeds(r, n, 3, r.Intn(3)))
	}
	for range 40 {
		n := 60 + r.Intn(60)
		holdSort(t, anyNames(r, n, 2), anyNeeds(r, n, 1+r.Intn(20), r.Intn(2)))
	}
}

// P14.3: in an order each thing stands once, behind all that it needs; there is one just if none is stuck; what is stuck needs something that needs itself, and all others reach nothing that is stuck.
func TestOneJustIfNoneIsStuck(t *testing.T) {
	r := rand.New(rand.NewSource(2))
	sorted := 0
	for range 300 {
		n := 100 + r.Intn(200)
		names, needs := anyNames(r, n, 4), anyNeeds(r, n, 3, r.Intn(12))
		l, e := order.Sort(names, needs)
		stuck, no := order.Stuck(needs)
		if no != api.OK || (e == api.OK) != (len(stuck) == 0) || e != api.OK && (e != api.ErrCycle || len(l) != 0) {
			t.Fatal(e, no, l, stuck)
		}
		if e == api.OK {
			sorted++
			holdBehind(t, needs, l)
		}
		holdStuck(t, needs, stuck)
	}
	if sorted < 50 || sorted > 250 {
		t.Error(sorted)
	}
}

func holdBehind(t *testing.T, needs [][]int, l []int) {
	t.Helper()
	laid := make([]bool, len(needs))
	for _, thing := range l {
		for _, n := range needs[thing] {
			if !laid[n] {
				t.Fatal(thing, "is ahead of", n)
			}
		}
		if laid[thing] {
			t.Fatal(thing, "a second time")
		}
		laid[thing] = true
	}
	if len(l) != len(needs) {
		t.Fatal(len(l), len(needs))
	}
}

func holdStuck(t *testing.T, needs [][]int, stuck []int) {
	t.Helper()
	if !slices.IsSorted(stuck) {
		t.Fatal(stuck)
	}
	reach := make([][]int, len(needs))
	for i := range reach {
		l, e := order.Reach(needs, i)
		if e != api.OK || !slices.IsSorted(l) || !slices.Contains(l, i) {
			t.Fatal(i, l, e)
		}
		reach[i] = l
	}
	for i, l := range reach {
		found := slices.ContainsFunc(l, func(j int) bool {
			return slices.ContainsFunc(needs[j], func(k int) bool { return slices.Contains(reach[k], j) })
		})
		if found != slices.Contains(stuck, i) {
			t.Fatal(i, found, stuck)
		}
	}
}

// What is handed in isn't changed, and what lies behind its length isn't read; what is answered is new.
func TestLists(t *testing.T) {
	room := []int{2, 7, -1}
	rows := [][]int{room[:1], nil, nil, {9}}
	names := []string{"b", "a", "c", "d"}
	l, e := order.Sort(names[:3], rows[:3])
	again, _ := order.Sort(names[:3], rows[:3])
	stuck, no := order.Stuck(rows[:3])
	from, yes := order.Reach(rows[:3], 0)
	if !slices.Equal(l, []int{1, 2, 0}) || len(stuck) != 0 || !slices.Equal(from, []int{0, 2}) || e != api.OK || no != api.OK || yes != api.OK {
		t.Error(l, stuck, from, e, no, yes)
	}
	for _, list := range [][]int{l[:cap(l)], stuck[:cap(stuck)], from[:cap(from)]} {
		for i := range list {
			list[i] = -5
		}
	}
	if !slices.Equal(again, []int{1, 2, 0}) || !slices.Equal(room, []int{2, 7, -1}) || !slices.Equal(names, []string{"b", "a", "c", "d"}) || len(rows[0]) != 1 || len(rows[1]) != 0 || !slices.Equal(rows[3], []int{9}) {
		t.Error(again, room, names, rows)
	}
	holdSorted(t, names[:3], rows[:3], 1, 2, 0)
}

// One row may be that of several things.
func TestSharedRow(t *testing.T) {
	row := []int{2, 2, 3}
	hold(t, []string{"b", "a", "d", "c"}, [][]int{row, row, nil, row[:1]})
	hold(t, []string{"b", "a", "d", "c"}, [][]int{row, row, row, nil})
}

// Many ask the same at a time.
func TestSideBySide(t *testing.T) {
	r := rand.New(rand.NewSource(4))
	names, needs := anyNames(r, 300, 3), anyNeeds(r, 300, 3, 0)
	want, _ := toldSort(names, needs)
	whole, _ := toldReach(needs, 7)
	var group sync.WaitGroup
	for range 8 {
		group.Go(func() {
			for range 50 {
				l, e := order.Sort(names, needs)
				stuck, no := order.Stuck(needs)
				from, yes := order.Reach(needs, 7)
				if !slices.Equal(l, want) || len(stuck) != 0 || !slices.Equal(from, whole) || e != api.OK || no != api.OK || yes != api.OK {
					t.Error(len(l), e, len(stuck), no, len(from), yes)
				}
			}
		})
	}
	group.Wait()
}
