package utf_test

import (
	"bytes"
	"math"
	"testing"

	"tipstave/api"
	"tipstave/utf"
)

// far are numbers beyond all characters; some would be one if they were cut to 32, 16 or 8 bits.
var far = []int{math.MinInt, math.MinInt32, -1 << 40, -65536, -256, -1, 0x110000, 0x110041, math.MaxInt32, 1<<32 + 'a', 1<<32 + ' ', 1 << 40, math.MaxInt}

// everyNumber are all numbers around characters, and those far from them.
func everyNumber() []int {
	l := append([]int(nil), far...)
	for c := -300; c < 0x110300; c++ {
		l = append(l, c)
	}
	return l
}

// mayBe, and bytesOf below, tell by the document's own numbers what the package tells by the library's.
func mayBe(c int) bool {
	return c == 9 || c == 10 || c == 13 || 32 <= c && c <= 55295 || 57344 <= c && c <= 65533 || 65536 <= c && c <= 1114111
}

func bytesOf(c int) []byte {
	low := func(shift int) byte { return byte(128 + c>>shift%64) }
	switch {
	case c < 128:
		return []byte{byte(c)}
	case c < 2048:
		return []byte{byte(192 + c>>6), low(0)}
	case c < 65536:
		return []byte{byte(224 + c>>12), low(6), low(0)}
	default:
		return []byte{byte(240 + c>>18), low(12), low(6), low(0)}
	}
}

// bits are the character that bytes would tell if their first one were right for so many; -1, if it can't be.
func bits(b []byte) int {
	if len(b) == 1 {
		return int(b[0])
	}
	c := int(b[0]) - []int{0, 0, 192, 224, 240}[len(b)]
	for _, x := range b[1:] {
		c = c<<6 + int(x) - 128
	}
	return c
}

// read is what Rune must answer at the front of bytes: of all characters the one whose bytes they begin with.
func read(b []byte) (int, int, api.Errno) {
	for n := 1; n <= 4 && n <= len(b); n++ {
		if c := bits(b[:n]); mayBe(c) && bytes.Equal(bytesOf(c), b[:n]) {
			return c, n, api.OK
		}
	}
	return 0, 0, api.ErrUtf
}

// edges are the bytes next to which something changes in what rows of bytes are right.
var edges = []byte{0, 8, 9, 10, 13, 31, 32, 'A', 126, 127, 128, 143, 144, 159, 160, 189, 190, 191, 192, 193, 194, 223, 224, 225, 236, 237, 238, 239, 240, 241, 243, 244, 245, 255}

// everyRow tells all rows of up to four such bytes.
func everyRow(tell func([]byte)) {
	tell(nil)
	for _, a := range edges {
		tell([]byte{a})
		for _, b := range edges {
			tell([]byte{a, b})
			for _, c := range edges {
				tell([]byte{a, b, c})
				for _, d := range edges {
					tell([]byte{a, b, c, d})
				}
			}
		}
	}
}

// wrong are rows that begin no character that may be.
var wrong = map[string][]byte{
	"a byte 0":                         {0},
	"a byte 8":                         {8},
	"a byte 11":                        {11},
	"a byte 12":                        {12},
	"a byte 31":                        {31},
	"another one's byte":               {128},
	"the last of another one's":        {191},
	"0 of two bytes":                   {192, 128},
	"47 of two bytes":                  {192, 175},
	"127 of two bytes":                 {193, 191},
	"two bytes cut":                    {195},
	"two bytes, then a letter":         {195, 'a'},
	"two bytes, then two more":         {195, 195, 164},
	"0 of three bytes":                 {224, 128, 128},
	"2047 of three bytes":              {224, 159, 191},
	"three bytes cut to one":           {226},
	"three bytes cut to two":           {226, 130},
	"three bytes, then a letter":       {226, 130, 'a'},
	"55296":                            {237, 160, 128},
	"57343":                            {237, 191, 191},
	"a pair of halves":                 {237, 160, 189, 237, 184, 128},
	"65534":                            {239, 191, 190},
	"65535":                            {239, 191, 191},
	"0 of four bytes":                  {240, 128, 128, 128},
	"65535 of four bytes":              {240, 143, 191, 191},
	"four bytes cut to one":            {240},
	"four bytes cut to two":            {240, 159},
	"four bytes cut to three":          {240, 159, 152},
	"four bytes, then a letter":        {240, 159, 152, 'a'},
	"1114112":                          {244, 144, 128, 128},
	"a greater first one":              {245, 128, 128, 128},
	"five bytes":                       {248, 136, 128, 128, 128},
	"a byte 254":                       {254},
	"a byte 255":                       {255},
	"65533 cut":                        {239, 191},
	"65533, its last byte wrong":       {239, 191, 'x'},
	"another one's byte, then 65533":   {191, 239, 191, 189},
	"two bytes cut by 65533":           {195, 239, 191, 189},
	"three bytes cut to two, by 65533": {226, 130, 239, 191, 189},
}

// P1.1.
func TestFine(t *testing.T) {
	for _, c := range everyNumber() {
		if got := utf.Fine(c); got != mayBe(c) {
			t.Fatal(c, got)
		}
	}
}

// P1.1.
func TestKinds(t *testing.T) {
	for _, c := range everyNumber() {
		blank := c == 9 || c == 10 || c == 13 || c == 32
		letter := 'A' <= c && c <= 'Z' || 'a' <= c && c <= 'z' || c == '_' || c >= 192 && mayBe(c) && c != 215 && c != 247
		digit := '0' <= c && c <= '9'
		want := [5]bool{blank, letter, letter || digit || c == '-' || c == '.' || c == 183, letter, letter || digit}
		if got := [5]bool{utf.Space(c), utf.Start(c), utf.Part(c), utf.First(c), utf.Next(c)}; got != want {
			t.Fatal(c, got, want)
		}
	}
}

// P1.1: the edges that the chapter names, number by number.
func TestKindsEdges(t *testing.T) {
	ask := map[string]func(int) bool{"Fine": utf.Fine, "Space": utf.Space, "Start": utf.Start, "Part": utf.Part, "First": utf.First, "Next": utf.Next}
	for name, c := range map[string]struct{ yes, no []int }{
		"Fine":  {[]int{9, 10, 13, 32, 127, 128, 55295, 57344, 65533, 65536, 131070, 1114111}, []int{-1, 0, 8, 11, 12, 14, 31, 55296, 57343, 65534, 65535, 1114112}},
		"Space": {[]int{9, 10, 13, 32}, []int{-1, 0, 8, 11, 12, 14, 31, 33, 133, 160, 0x2003, 0x3000, 0xFEFF}},
		"Start": {[]int{'A', 'Z', 'a', 'z', '_', 192, 214, 216, 246, 248, 894, 0x2003, 55295, 57344, 65533, 65536, 1114111}, []int{'@', '[', '`', '{', ':', '-', '.', '0', '9', 170, 183, 191, 215, 247, 55296, 57343, 65534, 65535, 1114112}},
		"Part":  {[]int{'A', 'Z', 'a', 'z', '_', '0', '9', '-', '.', 183, 192, 214, 216, 246, 248, 1114111}, []int{' ', ',', '/', ':', '+', 182, 184, 191, 215, 247, 55296, 65534, 65535, 1114112}},
		"First": {[]int{'A', 'Z', 'a', 'z', '_', 192, 214, 216, 246, 248, 65533, 65536, 1114111}, []int{'@', '[', '`', '{', '?', '\'', '-', '.', '0', '9', 183, 191, 215, 247, 55296, 65534, 65535, 1114112}},
		"Next":  {[]int{'A', 'Z', 'a', 'z', '_', '0', '9', 192, 214, 216, 246, 248, 65533, 65536, 1114111}, []int{'/', ':', '-', '.', '\'', 183, 191, 215, 247, 55296, 65534, 65535, 1114112}},
	} {
		for _, x := range c.yes {
			if !ask[name](x) {
				t.Error(name, x, "should be")
			}
		}
		for _, x := range c.no {
			if ask[name](x) {
				t.Error(name, x, "shouldn't be")
			}
		}
	}
}

// P1.2.
func TestPut(t *testing.T) {
	for _, c := range everyNumber() {
		b, e := utf.Put(c)
		if !mayBe(c) && (e != api.ErrUtf || len(b) != 0) || mayBe(c) && (e != api.OK || !bytes.Equal(b, bytesOf(c))) {
			t.Fatal(c, b, e)
		}
	}
}

// P1.2: the chapter's examples, and the greatest and the least of each length, written out.
func TestPutRows(t *testing.T) {
	for c, want := range map[int][]byte{
		9: {9}, 'A': {65}, 127: {127}, 128: {194, 128}, 228: {195, 164}, 2047: {223, 191}, 2048: {224, 160, 128}, 8364: {226, 130, 172},
		55295: {237, 159, 191}, 57344: {238, 128, 128}, 65533: {239, 191, 189}, 65536: {240, 144, 128, 128}, 0x1F600: {240, 159, 152, 128}, 1114111: {244, 143, 191, 191},
	} {
		if b, e := utf.Put(c); e != api.OK || !bytes.Equal(b, want) {
			t.Error(c, b, e)
		}
		if d, n, e := utf.Rune(want, 0); e != api.OK || d != c || n != len(want) {
			t.Error(want, d, n, e)
		}
	}
}

// P1.2: what is answered once isn't told again.
func TestPutIsNew(t *testing.T) {
	for _, c := range []int{'a', 228, 8364, 0x1F600} {
		b, _ := utf.Put(c)
		for i := range b {
			b[i] = 'x'
		}
		if d, e := utf.Put(c); e != api.OK || !bytes.Equal(d, bytesOf(c)) {
			t.Error(c, d, e)
		}
	}
}

// P1.2.
func TestRuneRange(t *testing.T) {
	for _, b := range [][]byte{nil, {}, []byte("a"), []byte("a\u00e4"), {255}} {
		for _, at := range []int{math.MinInt, -1, len(b), len(b) + 1, len(b) + 4, math.MaxInt - 3, math.MaxInt} {
			if c, n, e := utf.Rune(b, at); c != 0 || n != 0 || e != api.ErrRange {
				t.Error(b, at, c, n, e)
			}
		}
	}
}

// P1.2: at each place of a text, also amid a character's bytes.
func TestRunePlaces(t *testing.T) {
	b := []byte("a\u00e4\u20ac\ufffd\U0001F600\n")
	for at := range b {
		wc, wn, we := read(b[at:])
		if c, n, e := utf.Rune(b, at); c != wc || n != wn || e != we {
			t.Error(at, c, n, e)
		}
	}
}

// P1.2.
func TestRuneWrong(t *testing.T) {
	for name, b := range wrong {
		for _, at := range []int{0, 1, 5} {
			all := append(bytes.Repeat([]byte{'b'}, at), b...)
			if c, n, e := utf.Rune(all, at); c != 0 || n != 0 || e != api.ErrUtf {
				t.Error(name, at, c, n, e)
			}
		}
	}
}

// P1.2: what lies behind the length in memory isn't read, and nothing is changed.
func TestRuneKeepsToLength(t *testing.T) {
	for _, c := range []int{228, 8364, 65533, 0x1F600} {
		all := bytesOf(c)
		for n := 1; n < len(all); n++ {
			if d, m, e := utf.Rune(all[:n], 0); d != 0 || m != 0 || e != api.ErrUtf {
				t.Error(c, n, d, m, e)
			}
			if at, e := utf.Check(all[:n]); at != 0 || e != api.ErrUtf {
				t.Error(c, n, at, e)
			}
		}
		if !bytes.Equal(all, bytesOf(c)) {
			t.Error(c, all)
		}
	}
}

// P1.3.
func TestCheckRight(t *testing.T) {
	for _, s := range []string{"", "a", "\t\r\n ~\x7f", "a\u00e4\u20ac\ufffd\U0001F600", "\ufffd", "\ufffd\ufffd", "\ue000\U00010000\U0010FFFF", "\ufeffa"} {
		if at, e := utf.Check([]byte(s)); at != len(s) || e != api.OK {
			t.Errorf("%q %d %v", s, at, e)
		}
	}
	if at, e := utf.Check(nil); at != 0 || e != api.OK {
		t.Error(at, e)
	}
}

// P1.3: wrong bytes behind right ones, and ahead of right and wrong ones.
func TestCheckWrong(t *testing.T) {
	for name, b := range wrong {
		for _, ahead := range []string{"", "a", "ab\u00e4", "\ufffd", "\u20ac\U0001F600"} {
			for _, behind := range []string{"", "a", "\ufffd", "\x00", "\xff\xff"} {
				all := append(append([]byte(ahead), b...), behind...)
				if at, e := utf.Check(all); at != len(ahead) || e != api.ErrUtf {
					t.Error(name, all, at, e)
				}
			}
		}
	}
}

// checked is what Check must answer.
func checked(b []byte) (int, api.Errno) {
	for at := 0; at < len(b); {
		_, n, e := read(b[at:])
		if e != api.OK {
			return at, e
		}
		at += n
	}
	return len(b), api.OK
}

// P1.2, P1.3: all rows of up to four bytes at edges.
func TestRows(t *testing.T) {
	everyRow(func(b []byte) {
		was := append([]byte(nil), b...)
		wat, we := checked(b)
		if at, e := utf.Check(b); at != wat || e != we {
			t.Fatal(b, at, e)
		}
		if len(b) > 0 {
			wc, wn, we := read(b)
			if c, n, e := utf.Rune(b, 0); c != wc || n != wn || e != we {
				t.Fatal(b, c, n, e)
			}
		}
		if !bytes.Equal(b, was) {
			t.Fatal(was, b)
		}
	})
}

// P1.4: what is put is read, whatever stands ahead of it and behind it.
func TestPutIsRead(t *testing.T) {
	behind := []string{"", "a", "\x80", "\xbf\xbf\xbf", "\x00", "\xff", "\xc3", "\ufffd"}
	for c := range 0x110000 {
		b, e := utf.Put(c)
		if e != api.OK {
			continue
		}
		s := behind[c%len(behind)]
		if c < 0x900 || c%4096 < 16 || c%4096 > 4080 {
			for _, s := range behind {
				if d, n, e := utf.Rune(append([]byte{0x80, 'x'}, string(b)+s...), 2); d != c || n != len(b) || e != api.OK {
					t.Fatalf("%d %q %d %d %v", c, s, d, n, e)
				}
			}
		}
		if d, n, e := utf.Rune([]byte(string(b)+s), 0); d != c || n != len(b) || e != api.OK {
			t.Fatalf("%d %q %d %d %v", c, s, d, n, e)
		}
		if at, e := utf.Check(b); at != len(b) || e != api.OK {
			t.Fatal(c, at, e)
		}
	}
}

// P1.4: each character has one row of bytes: what is read is just what is put.
func TestOneRow(t *testing.T) {
	everyRow(func(b []byte) {
		c, n, e := utf.Rune(b, 0)
		if e != api.OK {
			return
		}
		if x, e := utf.Put(c); e != api.OK || !bytes.Equal(x, b[:n]) {
			t.Fatal(b, c, n, x, e)
		}
	})
}
