package number_test

import (
	"math"
	"math/rand"
	"strconv"
	"strings"
	"testing"

	"tipstave/api"
	"tipstave/number"
	"tipstave/testaid"
)

func holdRead(t *testing.T, s string) {
	t.Helper()
	n, e := number.Read(s)
	if want, f := toldRead(s); n != want || e != f {
		t.Fatalf("Read(%.80q): %v %d, want %v %d", s, n, e, want, f)
	}
}

// holdOne holds what is asked of one number against the chapter.
func holdOne(t *testing.T, n api.Number) {
	t.Helper()
	form, e := toldCanon(n)
	if m, f := number.Canon(n); m != form || f != e {
		t.Fatalf("Canon(%v): %v %d, want %v %d", n, m, f, form, e)
	}
	if got, want := number.Right(n), e == 0 && n == form; got != want {
		t.Fatalf("Right(%v): %v, want %v", n, got, want)
	}
	text, e := toldText(n)
	if s, f := number.Text(n); s != text || f != e {
		t.Fatalf("Text(%v): %q %d, want %q %d", n, s, f, text, e)
	}
}

// holdTwo holds what is asked of two numbers against the chapter.
func holdTwo(t *testing.T, a, b api.Number) {
	t.Helper()
	sign, e := toldCompare(a, b)
	if k, f := number.Compare(a, b); k != sign || f != e {
		t.Fatalf("Compare(%v, %v): %d %d, want %d %d", a, b, k, f, sign, e)
	}
	sum, e := toldAdd(a, b)
	if n, f := number.Add(a, b); n != sum || f != e {
		t.Fatalf("Add(%v, %v): %v %d, want %v %d", a, b, n, f, sum, e)
	}
}

func zeros(n int) string { return strings.Repeat("0", n) }

func nines(n int) string { return strings.Repeat("9", n) }

// anyDigits are digits by chance, often with some 0 ahead or behind.
func anyDigits(r *rand.Rand, most int) string {
	b := make([]byte, r.Intn(most)+1)
	for i := range b {
		b[i] = '0' + byte(r.Intn(10))
	}
	s := zeros(r.Intn(3)*r.Intn(4)) + string(b) + zeros(r.Intn(3)*r.Intn(4))
	return s[:min(len(s), most)]
}

// P7.1: every short text is the number that it tells, or none.
func TestReadEveryText(t *testing.T) {
	testaid.EveryText([]string{"0", "1", "9", "."}, 8, func(s string) { holdRead(t, s) })
	testaid.EveryText([]string{"0", "5", ".", "-", "e", " ", "x"}, 5, func(s string) { holdRead(t, s) })
}

// P7.1: no byte but digits and one point stands in a number's text, wherever.
func TestReadEveryByte(t *testing.T) {
	for c := range 256 {
		b := string([]byte{byte(c)})
		for _, s := range []string{b, b + "1", "1" + b, "1" + b + "2", "1.2" + b, "1." + b, b + ".1", "1" + b + ".2", "." + b} {
			holdRead(t, s)
		}
	}
	for _, s := range []string{"\u0661", "1\u0662", "\uff11", "1\u00b7 5", "1,5", "+1", "1_0", "0x1", "1.\n", "1\n", "\u00bd", "Inf", "NaN", "1/2"} {
		if n, e := number.Read(s); e != api.ErrForm || n != (api.Number{}) {
			t.Errorf("%q: %v %d", s, n, e)
		}
	}
}

// P7.1: all digits that stand there are counted, those that the one form hasn't too; a wrong text is told so ahead of a long one.
func TestReadLong(t *testing.T) {
	for _, n := range []int{998, 999, 1000, 1001, 1002} {
		for _, s := range []string{nines(n), zeros(n), "1" + zeros(n-1), zeros(n-1) + "1"} {
			for _, point := range []int{0, 1, 2, n / 2, n - 2, n - 1} {
				holdRead(t, s[:point]+"."+s[point:])
			}
			holdRead(t, s)
			for _, wrong := range []string{s + ".", s + "x", "-" + s, s + ".1.1", " " + s} {
				if m, e := number.Read(wrong); e != api.ErrForm || m != (api.Number{}) {
					t.Errorf("%d digits, wrong: %v %d", n, m, e)
				}
			}
		}
	}
	for _, s := range []string{zeros(1 << 20), "." + nines(1<<20), nines(1<<20) + "." + zeros(1<<20)} {
		if n, e := number.Read(s); e != api.ErrLong || n != (api.Number{}) {
			t.Errorf("%d bytes: %v %d", len(s), n, e)
		}
	}
}

// P7.1: the examples of the chapter and of the whole.
func TestReadExamples(t *testing.T) {
	for _, c := range []struct {
		s, text string
		n       api.Number
	}{
		{"007.50", "7.5", api.Number{Digits: "75", Scale: 1}},
		{".5", "0.5", api.Number{Digits: "5", Scale: 1}},
		{"0.0", "0", api.Number{Digits: "0"}},
		{"120", "120", api.Number{Digits: "120"}},
		{"0.05", "0.05", api.Number{Digits: "5", Scale: 2}},
	} {
		n, e := number.Read(c.s)
		s, f := number.Text(n)
		if n != c.n || s != c.text || e != 0 || f != 0 {
			t.Errorf("%q: %v %d %q %d", c.s, n, e, s, f)
		}
	}
	for _, s := range []string{"1.", "1e3"} {
		if n, e := number.Read(s); e != api.ErrForm || n != (api.Number{}) {
			t.Errorf("%q: %v %d", s, n, e)
		}
	}
}

// P7.1: a number is right just if it is in its one form. P7.2: Canon is that form, Text its text.
func TestEveryNumber(t *testing.T) {
	testaid.EveryText([]string{"0", "1", "9", "x"}, 5, func(s string) {
		for _, scale := range []int{-1, 0, 1, 2, 3, 4, 5, 6, 7} {
			holdOne(t, api.Number{Digits: s, Scale: scale})
		}
	})
	testaid.EveryText([]string{"0", "1", "x"}, 3, func(s string) {
		for _, scale := range []int{math.MinInt, -1001, 998, 999, 1000, 1001, math.MaxInt} {
			holdOne(t, api.Number{Digits: s, Scale: scale})
		}
	})
	for c := range 256 {
		for _, s := range []string{string([]byte{byte(c)}), string([]byte{'1', byte(c)}), string([]byte{byte(c), '1'})} {
			holdOne(t, api.Number{Digits: s, Scale: 1})
		}
	}
}

// P7.1, P7.2: numbers at the limits of their digits and of their scale.
func TestLongNumbers(t *testing.T) {
	for _, n := range []int{999, 1000, 1001} {
		for _, s := range []string{nines(n), zeros(n), "1" + zeros(n-1), zeros(n-1) + "1", zeros(500) + "1" + zeros(n-501)} {
			for _, scale := range []int{math.MinInt, -1, 0, 1, 498, 499, 500, 501, 998, 999, 1000, 1001, math.MaxInt} {
				holdOne(t, api.Number{Digits: s, Scale: scale})
			}
		}
	}
	holdOne(t, api.Number{Digits: nines(1<<20) + "x"})
}

// wrongs are what is no number, often by more than one thing, and what is told of it.
func wrongs() map[api.Number]api.Errno {
	return map[api.Number]api.Errno{
		{Digits: "1", Scale: -1}:                    api.ErrRange,
		{Digits: "0", Scale: 1001}:                  api.ErrRange,
		{Digits: "1", Scale: math.MinInt}:           api.ErrRange,
		{Digits: "1", Scale: math.MaxInt}:           api.ErrRange,
		{Digits: zeros(1000), Scale: 1001}:          api.ErrRange,
		{Digits: nines(1001)}:                       api.ErrLong,
		{Digits: zeros(1001), Scale: -1}:            api.ErrLong,
		{Digits: zeros(1001), Scale: 1001}:          api.ErrLong,
		{}:                                          api.ErrForm,
		{Scale: -1}:                                 api.ErrForm,
		{Digits: "-1"}:                              api.ErrForm,
		{Digits: "1.5", Scale: 1001}:                api.ErrForm,
		{Digits: nines(1000) + "x", Scale: -1}:      api.ErrForm,
		{Digits: "\xff" + nines(1001), Scale: 1001}: api.ErrForm,
	}
}

// P7.2: what is wrong with a number, by each call; the first of two numbers goes ahead; beside an error is nothing.
func TestWrongNumbers(t *testing.T) {
	right := api.Number{Digits: "10", Scale: 1}
	for n, want := range wrongs() {
		holdOne(t, n)
		holdTwo(t, n, right)
		holdTwo(t, right, n)
		m, e := number.Canon(n)
		s, f := number.Text(n)
		if m != (api.Number{}) || s != "" || e != want || f != want || number.Right(n) {
			t.Errorf("%.20q %d: %v %d, %q %d", n.Digits, n.Scale, m, e, s, f)
		}
		for other := range wrongs() {
			holdTwo(t, n, other)
			k, e := number.Compare(n, other)
			sum, f := number.Add(n, other)
			if k != 0 || sum != (api.Number{}) || e != want || f != want {
				t.Errorf("%.20q %d: %d %d, %v %d", n.Digits, n.Scale, k, e, sum, f)
			}
		}
	}
}

// P7.2: every two short numbers are held against each other, and added.
func TestEveryTwo(t *testing.T) {
	var all []api.Number
	testaid.EveryText([]string{"0", "1", "5", "9"}, 3, func(s string) {
		for scale := range 5 {
			all = append(all, api.Number{Digits: s, Scale: scale})
		}
	})
	for _, a := range all {
		for _, b := range all {
			holdTwo(t, a, b)
		}
	}
}

// P7.2: a sum is too long just if its one form has more than MaxDigits digits.
func TestLongSums(t *testing.T) {
	for _, c := range []struct {
		a, b api.Number
		want api.Errno
	}{
		{api.Number{Digits: nines(1000)}, api.Number{Digits: "1"}, api.ErrLong},
		{api.Number{Digits: nines(1000)}, api.Number{Digits: "0"}, 0},
		{api.Number{Digits: nines(1000), Scale: 1}, api.Number{Digits: "1", Scale: 1}, 0},
		{api.Number{Digits: nines(1000), Scale: 1000}, api.Number{Digits: "1", Scale: 1000}, 0},
		{api.Number{Digits: nines(1000), Scale: 1000}, api.Number{Digits: "1"}, api.ErrLong},
		{api.Number{Digits: "1" + zeros(999)}, api.Number{Digits: "1", Scale: 1}, api.ErrLong},
		{api.Number{Digits: "1" + zeros(998)}, api.Number{Digits: "1", Scale: 1}, 0},
		{api.Number{Digits: "1" + zeros(999)}, api.Number{Digits: "10", Scale: 1}, 0},
		{api.Number{Digits: "1" + zeros(999)}, api.Number{Digits: "1", Scale: 1000}, api.ErrLong},
		{api.Number{Digits: "1"}, api.Number{Digits: "1", Scale: 1000}, api.ErrLong},
		{api.Number{Digits: "1"}, api.Number{Digits: "1", Scale: 999}, 0},
		{api.Number{Digits: "5", Scale: 1}, api.Number{Digits: "5", Scale: 1000}, 0},
		{api.Number{Digits: "5" + zeros(999)}, api.Number{Digits: "5" + zeros(999)}, api.ErrLong},
		{api.Number{Digits: "4" + zeros(999)}, api.Number{Digits: "5" + zeros(999)}, 0},
		{api.Number{Digits: zeros(1000), Scale: 1000}, api.Number{Digits: zeros(1000)}, 0},
	} {
		holdTwo(t, c.a, c.b)
		holdTwo(t, c.b, c.a)
		if _, e := number.Add(c.a, c.b); e != c.want {
			t.Errorf("%.20q %d, %.20q %d: %d", c.a.Digits, c.a.Scale, c.b.Digits, c.b.Scale, e)
		}
	}
}

// P7.1, P7.2: numbers by chance, short and long.
func TestByChance(t *testing.T) {
	r := rand.New(rand.NewSource(7))
	for range 3000 {
		most := []int{3, 20, 1000}[r.Intn(3)]
		a := api.Number{Digits: anyDigits(r, most), Scale: r.Intn(min(most, 60))}
		b := api.Number{Digits: anyDigits(r, most), Scale: r.Intn(min(most, 60))}
		holdOne(t, a)
		holdTwo(t, a, b)
		holdTwo(t, a, a)
		s := anyDigits(r, most)
		point := len(s) - min(r.Intn(60), len(s))
		holdRead(t, s[:point]+"."+s[point:])
	}
}

// P7.3: the text of a one form is read as it, if it has at most MaxDigits digits.
func TestTextIsRead(t *testing.T) {
	r := rand.New(rand.NewSource(73))
	for i := range 3000 {
		n := api.Number{Digits: anyDigits(r, []int{4, 1000}[i%2]), Scale: r.Intn(1001)}
		form, _ := number.Canon(n)
		s, e := number.Text(n)
		if t2, f := number.Text(form); s != t2 || e != 0 || f != 0 {
			t.Fatalf("%v: %q %d, %q %d", n, s, e, t2, f)
		}
		m, f := number.Read(s)
		if long := len(strings.Replace(s, ".", "", 1)) > api.MaxDigits; long && (f != api.ErrLong || m != (api.Number{})) || !long && (f != 0 || m != form) {
			t.Fatalf("%v: %q is read as %v %d", n, s, m, f)
		}
	}
	s, _ := number.Text(api.Number{Digits: "1", Scale: 1000})
	if _, e := number.Read(s); e != api.ErrLong { // its text has 1001 digits
		t.Error(e)
	}
	s, _ = number.Text(api.Number{Digits: "1", Scale: 999})
	if n, e := number.Read(s); e != 0 || n != (api.Number{Digits: "1", Scale: 999}) {
		t.Error(n, e)
	}
}

// P7.3: two numbers are the same just if their one forms are, and their texts.
func TestSameJustIfForms(t *testing.T) {
	var all []api.Number
	for digits := range 120 {
		for scale := range 4 {
			n := strconv.Itoa(digits)
			all = append(all, api.Number{Digits: n, Scale: scale}, api.Number{Digits: "0" + n + "0", Scale: scale + 1})
		}
	}
	for _, a := range all {
		for _, b := range all {
			k, _ := number.Compare(a, b)
			x, _ := number.Canon(a)
			y, _ := number.Canon(b)
			s, _ := number.Text(a)
			u, _ := number.Text(b)
			if same := k == 0; same != (x == y) || same != (s == u) {
				t.Fatalf("%v %v: %d, %v %v, %q %q", a, b, k, x, y, s, u)
			}
		}
	}
}
