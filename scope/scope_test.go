package scope_test

import (
	"math/rand"
	"slices"
	"strconv"
	"strings"
	"sync"
	"testing"

	"tipstave/api"
	"tipstave/scope"
	"tipstave/testaid"
)

// made is a scope that must be.
func made(t *testing.T, l ...string) *scope.Scope {
	t.Helper()
	return with(t, nil, l...)
}

func with(t *testing.T, s *scope.Scope, l ...string) *scope.Scope {
	t.Helper()
	more, e := s.With(l...)
	if e != api.OK || more == nil {
		t.Fatalf("With(%.80q): %v %d", l, more, e)
	}
	return more
}

// oneByOne is a scope that got its names one by one.
func oneByOne(t *testing.T, l ...string) *scope.Scope {
	t.Helper()
	s := made(t)
	for _, name := range l {
		s = with(t, s, name)
	}
	return s
}

// holdNames holds what a scope has against the names that it must have, in their order.
func holdNames(t *testing.T, s *scope.Scope, all []string) {
	t.Helper()
	if got := slices.Collect(s.Names()); !slices.Equal(got, all) {
		t.Fatalf("Names: %.200q, want %.200q", got, all)
	}
	if s.Len() != len(all) {
		t.Fatalf("Len: %d, want %d", s.Len(), len(all))
	}
	for _, name := range all {
		if !s.Has(name) {
			t.Fatalf("Has(%q): false, of %.200q", name, all)
		}
	}
}

func holdLongest(t *testing.T, s *scope.Scope, all []string, words ...string) {
	t.Helper()
	name, k := s.Longest(words...)
	if want, n := toldLongest(all, words); name != want || k != n {
		t.Fatalf("Longest(%.200q) of %.200q: %.200q %d, want %.200q %d", words, all, name, k, want, n)
	}
}

// holdWith holds a scope with some more names against the chapter, and that the first one stays as it is.
func holdWith(t *testing.T, s *scope.Scope, all, l []string) (*scope.Scope, []string) {
	t.Helper()
	want, e := toldWith(all, l)
	more, f := s.With(l...)
	if f != e || (more == nil) != (e != api.OK) {
		t.Fatalf("With(%.200q) of %.200q: %v %d, want %d", l, all, more, f, e)
	}
	holdNames(t, s, all)
	if e == api.OK {
		holdNames(t, more, want)
	}
	return more, want
}

// pieces are names, such as are in order of bytes what they aren't by words, and what is no name.
var pieces = []string{"net", "net price", "net2", "Net", "\u00e4", "if", "net  price", ""}

// P9.1, P9.2: every short list of names, at first and as more.
func TestEveryList(t *testing.T) {
	testaid.EveryRow(pieces, 4, func(l []string) {
		want, e := toldWith(nil, l)
		s, f := scope.New(l...)
		if f != e || (s == nil) != (e != api.OK) {
			t.Fatalf("New(%q): %v %d, want %d", l, s, f, e)
		}
		holdNames(t, s, want)
		for cut := range l {
			first, e := scope.New(l[:cut]...)
			if all, f := toldWith(nil, l[:cut]); e == api.OK && f == api.OK {
				holdWith(t, first, all, l[cut:])
			}
		}
	})
}

// wrong are no names.
var wrong = []string{"", " ", "a ", " a", "a  b", "a\tb", "a\u00a0b", "1", "1a", "a 1", "a-b", "a.b", "if", "a if", "if a", "not", "a not b", "true", "null", "\xff", "a\xff", "a \xc3", "\xc0\x80", "\xed\xa0\x80", "\uffff", "\x00", "a\n", "\u00d7", "+", "\"a\""}

// P9.1: what is no name is refused, wherever it stands, by all scopes, that stay as they are.
func TestWrongNames(t *testing.T) {
	some := made(t, "a", "a b")
	for _, w := range wrong {
		for _, l := range [][]string{{w}, {w, "a"}, {"a", w}, {"c", w, "d"}, {"c", "c", w}, {w, w}} {
			for _, s := range []*scope.Scope{nil, made(t), some} {
				if more, e := s.With(l...); more != nil || e != api.ErrName {
					t.Errorf("With(%q): %v %d", l, more, e)
				}
			}
			if s, e := scope.New(l...); s != nil || e != api.ErrName {
				t.Errorf("New(%q): %v %d", l, s, e)
			}
		}
		if some.Has(w) {
			t.Errorf("Has(%q)", w)
		}
	}
	holdNames(t, some, []string{"a", "a b"})
}

// P9.1: many words, all characters that a name may have, and keywords' neighbours, are names.
func TestRightNames(t *testing.T) {
	for _, name := range []string{"a", "_", "A9", "ifs", "iff", "If", "nota", "truely", "a b c d e f", "\u00e4 \u00d6", "\ufffd", "\U0001F600", "\U0010FFFF x1", "item", "list", strings.Repeat("x", 100000)} {
		holdNames(t, made(t, name), []string{name})
	}
}

// P9.1: as many names as may be, and one more.
func TestLimit(t *testing.T) {
	all := testaid.Numbered("n", api.MaxScope)
	rising := slices.Sorted(slices.Values(all))
	full := made(t, all...)
	holdNames(t, full, rising)
	holdWith(t, full, rising, []string{"m"})
	holdWith(t, full, rising, []string{"n0", "n4095", "n0", "m"})
	holdWith(t, full, rising, slices.Concat(all, all))
	holdWith(t, full, rising, nil)
	holdWith(t, nil, nil, append(slices.Clone(all), "m"))
	holdWith(t, nil, nil, append(slices.Concat(all, all), "n7"))
	for _, n := range []int{0, 1, 2, 2048, 4094, 4095} {
		part := slices.Sorted(slices.Values(all[:n]))
		s := made(t, all[:n]...)
		holdWith(t, s, part, all)
		holdWith(t, s, part, all[n:])
		holdWith(t, s, part, all[:n])
		holdWith(t, s, part, append(slices.Clone(all), "m"))
		holdWith(t, s, part, append(slices.Clone(all[n:]), "m"))
		holdWith(t, s, part, append(slices.Clone(all[n+1:]), "m"))
	}
}

// P9.1: no name goes ahead of too many.
func TestNameAheadOfLong(t *testing.T) {
	all := testaid.Numbered("n", api.MaxScope)
	full := made(t, all...)
	for _, w := range wrong {
		for _, l := range [][]string{{"m", w}, {w, "m"}, append(testaid.Numbered("m", 5000), w)} {
			if more, e := full.With(l...); more != nil || e != api.ErrName {
				t.Errorf("With(%.80q): %v %d", l, more, e)
			}
		}
		if s, e := scope.New(append(testaid.Numbered("m", 4097), w)...); s != nil || e != api.ErrName {
			t.Errorf("New(.., %q): %v %d", w, s, e)
		}
	}
}

// P9.1: what is refused changes nothing, so that what may be still is.
func TestRefused(t *testing.T) {
	s := made(t, testaid.Numbered("n", api.MaxScope-1)...)
	for range 3 {
		if _, e := s.With("a", "b"); e != api.ErrLong {
			t.Error(e)
		}
		if _, e := s.With("a", "1"); e != api.ErrName {
			t.Error(e)
		}
	}
	if more := with(t, s, "b"); more.Len() != api.MaxScope || more.Has("a") || s.Has("b") {
		t.Error(more.Len())
	}
}

// A nil scope answers what one without names does.
func TestNil(t *testing.T) {
	var none *scope.Scope
	for _, s := range []*scope.Scope{none, made(t), with(t, none), with(t, with(t, none))} {
		holdNames(t, s, nil)
		for _, words := range [][]string{nil, {""}, {"a"}, {"a", "b"}, {" "}, {"\xff"}} {
			holdLongest(t, s, nil, words...)
			if len(words) > 0 && s.Has(words[0]) {
				t.Errorf("Has(%q)", words[0])
			}
		}
		holdWith(t, s, nil, nil)
		holdWith(t, s, nil, []string{"b", "a", "b"})
		holdWith(t, s, nil, []string{"a", "1"})
		holdWith(t, s, nil, testaid.Numbered("n", api.MaxScope))
		holdWith(t, s, nil, testaid.Numbered("n", api.MaxScope+1))
	}
	if s, e := none.With(); s == nil || e != api.OK {
		t.Errorf("With() of nil: %v %d", s, e)
	}
}

// P9.2: nothing but a whole name is one.
func TestHas(t *testing.T) {
	all := []string{"a b", "net", "net price", "price of net", "\ufffd"}
	for _, s := range []*scope.Scope{made(t, all...), oneByOne(t, all...)} {
		testaid.EveryText([]string{"a", "b", "net", "price", "of", " ", "\ufffd", "\xef\xbf", "\xff"}, 5, func(text string) {
			if got := s.Has(text); got != slices.Contains(all, text) {
				t.Fatalf("Has(%q): %v", text, got)
			}
		})
	}
}

// P9.2: names are told in the order of their bytes, whatever order they came in.
func TestOrder(t *testing.T) {
	rising := []string{"Z", "_", "a", "a a", "a b", "a0", "aZ", "a_", "aa", "a\u00c0", "b", "\u00c0", "\u00ff", "\u0100", "\ufffd", "\U00010000"}
	r := rand.New(rand.NewSource(1))
	for range 300 {
		l := slices.Clone(rising)
		r.Shuffle(len(l), func(i, k int) { l[i], l[k] = l[k], l[i] })
		holdNames(t, made(t, l...), rising)
		holdNames(t, oneByOne(t, l...), rising)
		cut := r.Intn(len(l))
		holdNames(t, with(t, made(t, l[:cut]...), l[cut:]...), rising)
		holdNames(t, with(t, made(t, l[cut:]...), l[:cut]...), rising)
	}
}

// P9.2: who is told names may stop anywhere, begin anew, and be told others meanwhile.
func TestNamesStop(t *testing.T) {
	all := slices.Sorted(slices.Values(testaid.Numbered("n", 40)))
	for _, s := range []*scope.Scope{made(t, all...), oneByOne(t, testaid.Numbered("n", 40)...)} {
		told := s.Names()
		for stop := range len(all) + 1 {
			var got []string
			told(func(name string) bool {
				got = append(got, name)
				return len(got) <= stop
			})
			if !slices.Equal(got, all[:min(stop+1, len(all))]) {
				t.Fatalf("stopped at %d: %q", stop, got)
			}
		}
		n := 0
		for a := range told {
			for b := range told {
				if a <= b {
					n++
				}
			}
		}
		if n != 820 {
			t.Errorf("%d pairs", n)
		}
	}
}

// scopes are some, each with its names, made at once, one by one, and in parts.
func scopes(t *testing.T, tell func(*scope.Scope, []string)) {
	t.Helper()
	for _, l := range [][]string{
		nil,
		{"net"},
		{"net price"},
		{"net", "net price"},
		{"net price of", "price", "net"},
		{"net price of net price", "net", "of net", "price of"},
		{"price of net", "of", "nets", "ne", "net2", "net price2", "net p", "net pric"},
		{"net net", "net net net net", "Net", "net\u00e4"},
		{"net net net", "price", "net net net price", "price price", "net of", "net net of", "\ufffd"},
	} {
		all := slices.Sorted(slices.Values(l))
		tell(made(t, l...), all)
		tell(oneByOne(t, l...), all)
		tell(oneByOne(t, all...), all)
		tell(with(t, made(t, l[:len(l)/2]...), l[len(l)/2:]...), all)
		tell(with(t, made(t, l[len(l)/2:]...), l[:len(l)/2]...), all)
	}
}

// P9.3: of every short row of words, words that are none and such as have blanks within them too.
func TestLongestEveryRow(t *testing.T) {
	scopes(t, func(s *scope.Scope, all []string) {
		testaid.EveryRow([]string{"net", "price", "of", "", " ", "net price", "price of", "nets", "\xff"}, 4, func(words []string) {
			holdLongest(t, s, all, words...)
		})
	})
}

// P9.3: the chapter's examples.
func TestLongestExamples(t *testing.T) {
	s := made(t, "net", "net price", "a")
	if name, k := s.Longest("net", "price", "x"); name != "net price" || k != 2 {
		t.Error(name, k)
	}
	if name, k := s.Longest("price"); name != "" || k != 0 {
		t.Error(name, k)
	}
}

// P9.3: longer names between which there is none of a length, and fronts of names that are none.
func TestLongestGaps(t *testing.T) {
	words := slices.Repeat([]string{"a"}, 12)
	for set := range 1 << 12 {
		var l []string
		for k := range 12 {
			if set>>k&1 == 1 {
				l = append(l, strings.Join(words[:k+1], " "))
			}
		}
		s := made(t, l...)
		if set%2 == 1 {
			s = oneByOne(t, l...)
		}
		for k := range len(words) + 1 {
			holdLongest(t, s, l, words[:k]...)
			holdLongest(t, s, l, slices.Concat(words[:k], []string{"b"}, words[k:])...)
		}
	}
}

// P9.4: more names have no shorter longest ones.
func TestMoreIsNoShorter(t *testing.T) {
	testaid.EveryRow([]string{"a", "b", "a b", "a a", "a b a", "b a", "a b a b"}, 3, func(l []string) {
		s := made(t, l...)
		for cut := range l {
			less := made(t, l[:cut]...)
			more := with(t, less, l[cut:]...)
			testaid.EveryRow([]string{"a", "b"}, 4, func(words []string) {
				_, k := less.Longest(words...)
				name, n := more.Longest(words...)
				if n < k {
					t.Fatalf("%q and %q: Longest(%q) %d, then %d", l[:cut], l[cut:], words, k, n)
				}
				if same, m := s.Longest(words...); same != name || m != n {
					t.Fatalf("%q at once: Longest(%q) %q %d, else %q %d", l, words, same, m, name, n)
				}
			})
		}
	})
}

// P9.4: a name's own words are told, whatever stands behind, unless a longer one is.
func TestOwnWords(t *testing.T) {
	scopes(t, func(s *scope.Scope, all []string) {
		for _, name := range all {
			own := strings.Split(name, " ")
			testaid.EveryRow([]string{"net", "price", "of", "", "if", "1", "\xff"}, 3, func(behind []string) {
				words := slices.Concat(own, behind)
				got, k := s.Longest(words...)
				if k < len(own) || k == len(own) && got != name || !s.Has(got) || got != strings.Join(words[:k], " ") {
					t.Fatalf("Longest(%q) of %q: %q %d", words, all, got, k)
				}
			})
		}
	})
}

// anyName is one by chance, of a few words.
func anyName(r *rand.Rand) string {
	return strings.Join(anyWords(r, 1+r.Intn(4)), " ")
}

func anyWords(r *rand.Rand, n int) []string {
	words := make([]string, n)
	for i := range words {
		words[i] = []string{"a", "b", "ab", "a1", "\u00e4"}[r.Intn(5)]
	}
	return words
}

// P9.1 to P9.3: scopes by chance, each with some more names than one of those ahead of it: all stay what they were.
func TestChance(t *testing.T) {
	for seed := range int64(60) {
		r := rand.New(rand.NewSource(seed))
		made, all := []*scope.Scope{nil}, [][]string{nil}
		for range 60 {
			from := r.Intn(len(made))
			if r.Intn(2) == 0 {
				from = len(made) - 1
			}
			var l []string
			for range r.Intn(4) {
				l = append(l, anyName(r))
			}
			if r.Intn(9) == 0 {
				l = append(l, wrong[r.Intn(len(wrong))])
			}
			if s, names := holdWith(t, made[from], all[from], l); s != nil {
				made, all = append(made, s), append(all, names)
			}
		}
		for i, s := range made {
			holdNames(t, s, all[i])
			for range 10 {
				holdLongest(t, s, all[i], anyWords(r, r.Intn(6))...)
				if name := anyName(r); s.Has(name) != slices.Contains(all[i], name) {
					t.Fatalf("Has(%q) of %q", name, all[i])
				}
			}
		}
	}
}

// P9.1: as many names as may be, one by one: each scope on the way is what it was.
func TestOneByOneToTheLimit(t *testing.T) {
	l := testaid.Numbered("n", api.MaxScope)
	rand.New(rand.NewSource(2)).Shuffle(len(l), func(i, k int) { l[i], l[k] = l[k], l[i] })
	made := []*scope.Scope{made(t)}
	for _, name := range l {
		made = append(made, with(t, made[len(made)-1], name))
	}
	for n, s := range made {
		if s.Len() != n || n > 0 && !s.Has(l[n-1]) || n < len(l) && s.Has(l[n]) {
			t.Fatalf("%d names: %d", n, s.Len())
		}
		if n%64 == 0 || n > 4090 {
			holdNames(t, s, slices.Sorted(slices.Values(l[:n])))
		}
	}
	if s, e := made[len(l)].With("m"); s != nil || e != api.ErrLong {
		t.Error(s, e)
	}
}

// P9.1: two scopes of one have nothing to do with one another.
func TestForks(t *testing.T) {
	for _, n := range []int{0, 1, 2, 3, 7, 100} {
		all := slices.Sorted(slices.Values(testaid.Numbered("n", n)))
		s := oneByOne(t, all...)
		var forks []*scope.Scope
		for _, name := range testaid.Numbered("m", 20) {
			forks = append(forks, with(t, s, name))
		}
		for i, f := range forks {
			holdNames(t, f, append([]string{"m" + strconv.Itoa(i)}, all...))
		}
		holdNames(t, s, all)
	}
}

// What is handed in is neither changed nor kept, nor is what lies behind it read or written.
func TestLists(t *testing.T) {
	l := []string{"c", "a", "c", "b", "1", "d"}
	s := made(t, l[:4]...)
	more := with(t, s, l[5:]...)
	if !slices.Equal(l, []string{"c", "a", "c", "b", "1", "d"}) {
		t.Errorf("changed: %q", l)
	}
	words := []string{"a", "b", "x"}
	s.Longest(words[:1]...)
	for i := range l {
		l[i] = "x"
	}
	holdNames(t, s, []string{"a", "b", "c"})
	holdNames(t, more, []string{"a", "b", "c", "d"})
	if name, k := with(t, s, "a b").Longest(words...); name != "a b" || k != 2 || !slices.Equal(words, []string{"a", "b", "x"}) {
		t.Error(name, k, words)
	}
}

// One scope is asked, and leads to others, by many at a time.
func TestSideBySide(t *testing.T) {
	all := slices.Sorted(slices.Values(append(testaid.Numbered("n", 50), "n1 n2")))
	s := oneByOne(t, all...)
	var group sync.WaitGroup
	for g := range 8 {
		group.Go(func() {
			for i := range 100 {
				name := "m" + strconv.Itoa(g) + " " + "x" + strconv.Itoa(i)
				more, e := s.With(name)
				if e != api.OK || !more.Has(name) || s.Has(name) || more.Len() != 52 {
					t.Errorf("With(%q): %d", name, e)
				}
				if got := slices.Collect(s.Names()); !slices.Equal(got, all) {
					t.Errorf("Names: %q", got)
				}
				if name, k := s.Longest("n1", "n2", "n3"); name != "n1 n2" || k != 2 {
					t.Errorf("Longest: %q %d", name, k)
				}
			}
		})
	}
	group.Wait()
}

// P9.3, P1: very long names, rows of words, and lists take a time that goes with how long they are.
func TestLong(t *testing.T) {
	words := slices.Repeat([]string{"a"}, 1000000)
	name := strings.Join(words, " ")
	s := made(t, name, "a a", name+" b")
	for range 3 {
		if got, k := s.Longest(words...); got != name || k != len(words) {
			t.Error(len(got), k)
		}
		if got, k := s.Longest(words[1:]...); got != "a a" || k != 2 {
			t.Error(len(got), k)
		}
		if got, k := s.Longest(append(slices.Clone(words), "b")...); len(got) != len(name)+2 || k != len(words)+1 {
			t.Error(len(got), k)
		}
		if got, k := made(t, "b").Longest(words...); got != "" || k != 0 {
			t.Error(got, k)
		}
	}
	if got := made(t, words...); got.Len() != 1 {
		t.Error(got.Len())
	}
	if got, e := scope.New(testaid.Numbered("n", 300000)...); got != nil || e != api.ErrLong {
		t.Error(e)
	}
}

// P9.1, P1: very many scopes, each of the one ahead of it: each is asked as fast as the first one.
func TestOften(t *testing.T) {
	s := made(t, "a", "b")
	for range 1000000 {
		s = with(t, s)
	}
	for range 100000 {
		s = with(t, s, "a")
		if !s.Has("a") || s.Has("c") || s.Len() != 2 {
			t.Fatal(s.Len())
		}
	}
	full := oneByOne(t, testaid.Numbered("n", api.MaxScope)...)
	for range 1000000 {
		if name, k := full.Longest("n4000", "n1"); name != "n4000" || k != 1 || full.Has("m") {
			t.Fatal(name, k)
		}
	}
}
