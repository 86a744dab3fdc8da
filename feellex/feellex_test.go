package feellex_test

import (
	"fmt"
	"math"
	"math/rand"
	"slices"
	"strconv"
	"strings"
	"sync"
	"testing"

	"tipstave/api"
	"tipstave/feellex"
	"tipstave/testaid"
)

// keywords and signs, as the chapters list them.
var (
	keywords = strings.Fields("and between else every false for function if in not null or return satisfies some then true")
	signs    = strings.Fields("+ - * ** / < <= > >= = != ( ) [ ] { } , : . ..")
)

// wrongs are bytes that are of no character that may be.
var wrongs = []string{"\x80", "\xbf", "\xc3", "\xc0\x80", "\xe2\x82", "\xed\xa0\x80", "\xef\xbf", "\xef\xbf\xbe", "\xef\xbf\xbf", "\xf0\x9f\x98", "\xf4\x90\x80\x80", "\xff", "\x00", "\x0b", "\x1f"}

// check holds what is answered of a text against the chapter, and what is answered of its tokens.
func check(t *testing.T, s string) {
	t.Helper()
	want, wat, we := toldLex(s)
	l, at, e := feellex.Lex(s)
	if !slices.Equal(l, want) || at != wat || e != we {
		t.Fatalf("%.80q: %v %d %d, not %v %d %d", s, l, at, e, want, wat, we)
	}
	if e == api.OK {
		checkAgain(t, l)
	}
}

// checkAgain holds the texts of tokens, with a blank between two, against P8.3.
func checkAgain(t *testing.T, l []api.Lex) {
	t.Helper()
	var texts strings.Builder
	var want []api.Lex
	for _, x := range l[:len(l)-1] {
		text, e := feellex.Text(x)
		if e != api.OK {
			t.Fatalf("%v: %d", x, e)
		}
		want = append(want, api.Lex{Kind: x.Kind, At: texts.Len(), S: x.S})
		texts.WriteString(text + " ")
	}
	s := texts.String()
	want = append(want, api.Lex{Kind: api.Finish, At: len(s)})
	if again, at, e := feellex.Lex(s); !slices.Equal(again, want) || at != len(s) || e != api.OK {
		t.Fatalf("%.80q: %v %d %d, not %v", s, again, at, e, want)
	}
}

// checkText holds what Text and Quote answer against the chapter.
func checkText(t *testing.T, s string) {
	t.Helper()
	want, we := toldQuote(s)
	if q, e := feellex.Quote(s); q != want || e != we {
		t.Fatalf("Quote(%.80q): %.80q %d, not %.80q %d", s, q, e, want, we)
	}
	for kind := -1; kind < 7; kind++ {
		x := api.Lex{Kind: kind, At: 3, S: s}
		want, we := toldText(x)
		if text, e := feellex.Text(x); text != want || e != we {
			t.Fatalf("Text(%d, %.80q): %.80q %d, not %.80q %d", kind, s, text, e, want, we)
		}
	}
}

// shown are a text's tokens, each with its kind and its place.
func shown(t *testing.T, s string) string {
	t.Helper()
	l, at, e := feellex.Lex(s)
	if e != api.OK || at != len(s) {
		t.Fatalf("%q: %d %d", s, at, e)
	}
	kinds := []string{"Word", "Key", "Num", "Str", "Sign", "Finish"}
	var told []string
	for _, x := range l {
		told = append(told, kinds[x.Kind]+strconv.Itoa(x.At)+" "+x.S)
	}
	return strings.Join(told, "|")
}

// P8.1: the chapter's examples, and each kind of token where another one may begin.
func TestLex(t *testing.T) {
	for s, want := range map[string]string{
		"net price*1.5":        "Word0 net|Word4 price|Sign9 *|Num10 1.5|Finish13 ",
		"[1..5]":               "Sign0 [|Num1 1|Sign2 ..|Num4 5|Sign5 ]|Finish6 ",
		"":                     "Finish0 ",
		" \t\r\n":              "Finish4 ",
		"\u00e4 if\n":          "Word0 \u00e4|Key3 if|Finish6 ",
		"if_ if1 xif If":       "Word0 if_|Word4 if1|Word8 xif|Word12 If|Finish14 ",
		"if.in":                "Key0 if|Sign2 .|Key3 in|Finish5 ",
		"1.2.3":                "Num0 1.2|Num3 .3|Finish5 ",
		"1..2":                 "Num0 1|Sign1 ..|Num3 2|Finish4 ",
		"1...2":                "Num0 1|Sign1 ..|Num3 .2|Finish5 ",
		"1.":                   "Num0 1|Sign1 .|Finish2 ",
		"1.x.5":                "Num0 1|Sign1 .|Word2 x|Num3 .5|Finish5 ",
		"..5":                  "Sign0 ..|Num2 5|Finish3 ",
		"1e3":                  "Num0 1|Word1 e3|Finish3 ",
		"007.50":               "Num0 007.50|Finish6 ",
		"-1":                   "Sign0 -|Num1 1|Finish2 ",
		"a-b":                  "Word0 a|Sign1 -|Word2 b|Finish3 ",
		"***":                  "Sign0 **|Sign2 *|Finish3 ",
		"<>==!=":               "Sign0 <|Sign1 >=|Sign3 =|Sign4 !=|Finish6 ",
		"....":                 "Sign0 ..|Sign2 ..|Finish4 ",
		`""`:                   "Str0 |Finish2 ",
		`"a""b"c`:              "Str0 a|Str3 b|Word6 c|Finish7 ",
		`"\"\\"`:               "Str0 \"\\|Finish6 ",
		`"\\""\""`:             "Str0 \\|Str4 \"|Finish8 ",
		`"\n\r\t\u0041\u00E4"`: "Str0 \n\r\tA\u00e4|Finish20 ",
		"\"\t\r\n/*'\ufffd\"":  "Str0 \t\r\n/*'\ufffd|Finish11 ",
		`"\u00411"`:            "Str0 A1|Finish9 ",
		`"\u0022\u005c"`:       "Str0 \"\\|Finish14 ",
		`"if"if"1"1`:           "Str0 if|Key4 if|Str6 1|Num9 1|Finish10 ",
		"\u0661\ufffd":         "Word0 \u0661\ufffd|Finish5 ",
	} {
		if got := shown(t, s); got != want {
			t.Errorf("%q: %q, not %q", s, got, want)
		}
		check(t, s)
	}
}

// P8.1: which error is told, and where, is what stands first, but what is no character goes ahead of all.
func TestWrong(t *testing.T) {
	for _, c := range []struct {
		s    string
		at   int
		want api.Errno
	}{
		{`"a`, 2, api.ErrShort},
		{"a ? b", 2, api.ErrLex},
		{"\"", 1, api.ErrShort},
		{"!", 0, api.ErrLex},
		{"a!b", 1, api.ErrLex},
		{"! =", 0, api.ErrLex},
		{"!!=", 0, api.ErrLex},
		{"1 \\ 2", 2, api.ErrLex},
		{"\u00e4\u00d7", 2, api.ErrLex},
		{"\u00b7a", 0, api.ErrLex},
		{"a\u00a0b", 1, api.ErrLex},
		{"\ufeffa;", 4, api.ErrLex},
		{"'a'", 0, api.ErrLex},
		{`"a\"`, 4, api.ErrShort},
		{`"a\\\"`, 6, api.ErrShort},
		{`"\`, 1, api.ErrLex},
		{`"\\\`, 3, api.ErrLex},
		{`"\q"`, 1, api.ErrLex},
		{`"\q`, 1, api.ErrLex},
		{`"a\`, 2, api.ErrLex},
		{`"\u"`, 1, api.ErrLex},
		{`"\u`, 1, api.ErrLex},
		{`"\u004`, 1, api.ErrLex},
		{`"\u0041`, 7, api.ErrShort},
		{`"\u00"41"`, 1, api.ErrLex},
		{`"\u+041"`, 1, api.ErrLex},
		{`"\u 041"`, 1, api.ErrLex},
		{`"\u0x41"`, 1, api.ErrLex},
		{`"\u4_1"`, 1, api.ErrLex},
		{`"\U0041"`, 1, api.ErrLex},
		{`"\ud83d\ude00"`, 1, api.ErrLex},
		{`"\u00e4\uffff"`, 7, api.ErrLex},
		{`"\u0000`, 1, api.ErrLex},
		{"\"\\\u00e4\"", 1, api.ErrLex},
		{"\"\\\n\"", 1, api.ErrLex},
		{"\"\\u00\u00e4\u00e4\"", 1, api.ErrLex},
		{`?"\q"`, 0, api.ErrLex},
		{`"\q"?`, 1, api.ErrLex},
		{`a ? "`, 2, api.ErrLex},
		{`"\q\u0000`, 1, api.ErrLex},
		{"? \x00", 2, api.ErrUtf},
		{"\"\\q \xff", 4, api.ErrUtf},
		{"\"\xff", 1, api.ErrUtf},
		{"\"\\\xff\"", 2, api.ErrUtf},
		{"\"a\ufffe", 2, api.ErrUtf},
		{"\u00e4\xc3", 2, api.ErrUtf},
	} {
		if l, at, e := feellex.Lex(c.s); len(l) > 0 || at != c.at || e != c.want {
			t.Errorf("%q: %v %d %d", c.s, l, at, e)
		}
		check(t, c.s)
	}
}

// P8.1, P8.3: all texts of few pieces, at the edges of each kind of token.
func TestEveryText(t *testing.T) {
	for _, pieces := range [][]string{
		{"1", "0", ".", "a", " ", "-", "e"},
		{"i", "f", "n", "o", "t", "r", "1"},
		{"*", "<", ">", "=", "!", ".", "/"},
		{"\"", "\\", "u", "n", "0041", "d8", "\n"},
		{"if", "a", "1", ".", "\"", "\\", " ", "\n", "!", "=", "?"},
	} {
		testaid.EveryText(pieces, 5, func(s string) { check(t, s) })
	}
}

// P8.1: all rows of few pieces behind a \u.
func TestEveryNumbered(t *testing.T) {
	testaid.EveryText([]string{"0", "9", "a", "F", "g", "_", "+", " ", "\"", "\\", "\u00e4"}, 4, func(s string) {
		check(t, `"\u`+s)
		check(t, `"\u`+s+`"`)
	})
}

// P8.1: each number that four digits tell, in small and in great ones.
func TestEveryFour(t *testing.T) {
	for c := range 0x10000 {
		for _, form := range []string{`"\u%04x"`, `"\u%04X"`} {
			s := fmt.Sprintf(form, c)
			l, at, e := feellex.Lex(s)
			if !mayBe(c) && (len(l) > 0 || at != 1 || e != api.ErrLex) {
				t.Fatalf("%s: %v %d %d", s, l, at, e)
			}
			if mayBe(c) && (e != api.OK || len(l) != 2 || l[0] != api.Lex{Kind: api.Str, S: string(rune(c))}) {
				t.Fatalf("%s: %v %d %d", s, l, at, e)
			}
		}
	}
}

// P8.1, P8.2, P8.3: each character by itself is a token, a blank, or wrong; in quotes it is told.
func TestEveryCharacter(t *testing.T) {
	var apart, inQuotes strings.Builder
	for c := range 0x110000 {
		if 0xd800 <= c && c < 0xe000 { // halves of pairs have no bytes
			continue
		}
		s := string(rune(c))
		if _, _, e := toldLex(s); e == api.OK {
			apart.WriteString(s + " ")
		} else {
			check(t, s)
		}
		if mayBe(c) && c != '"' && c != '\\' {
			inQuotes.WriteString(s)
		}
	}
	check(t, apart.String())
	check(t, "\""+inQuotes.String()+"\"")
	checkText(t, inQuotes.String())
}

// P8.1, P8.2, P8.3: each character near an edge, behind and ahead of others, in quotes, and behind a \.
func TestEdges(t *testing.T) {
	edges := []int{0x2028, 0x3000, 0xd7fe, 0xe001, 0xfeff, 0xfffd, 0x10000, 0x1f600, 0x10ffff}
	for c := range 0x400 {
		edges = append(edges, c)
	}
	for _, edge := range edges {
		for c := max(edge-2, 0); c <= min(edge+2, 0x10ffff); c++ {
			s := string(rune(c))
			for _, x := range []string{s + "1", "a" + s + "a", "1" + s + "1", "." + s, "\"" + s + "\"", "\"\\" + s + "\"", "\"\\" + s, s + "\""} {
				check(t, x)
			}
			checkText(t, s)
			checkText(t, "a"+s)
			checkText(t, "1"+s)
		}
	}
}

// P8.1: a keyword is one just if all of the word is.
func TestKeys(t *testing.T) {
	for _, key := range keywords {
		for _, s := range []string{key, key + " ", " " + key, "\"\"" + key + "(", "1" + key, key + "." + key} {
			check(t, s)
		}
		l, _, e := feellex.Lex(key)
		if e != api.OK || l[0] != (api.Lex{Kind: api.Key, S: key}) {
			t.Errorf("%s: %v %d", key, l, e)
		}
		for _, s := range []string{key + "1", key + "_", "_" + key, key + key, key + "\u00e4", key[:len(key)-1] + "x", strings.ToUpper(key), strings.ToUpper(key[:1]) + key[1:], key + "s"} {
			l, _, e := feellex.Lex(s)
			if e != api.OK || l[0] != (api.Lex{Kind: api.Word, S: s}) {
				t.Errorf("%s: %v %d", s, l, e)
			}
			check(t, s)
			checkText(t, s)
		}
		checkText(t, key)
	}
}

// P8.1: each sign, and what begins where the longest of several ends.
func TestSigns(t *testing.T) {
	for _, x := range signs {
		l, at, e := feellex.Lex(x)
		if e != api.OK || at != len(x) || len(l) != 2 || l[0] != (api.Lex{Kind: api.Sign, S: x}) {
			t.Errorf("%s: %v %d %d", x, l, at, e)
		}
		checkText(t, x)
		for _, y := range append(signs, "a", "1", "\"\"", "!", " ") {
			check(t, x+y)
			check(t, y+x)
			checkText(t, x+y)
			for _, z := range signs {
				check(t, x+y+z)
			}
		}
	}
}

// P8.1, P8.2: wrong bytes, wherever they stand, aren't taken for the character 65533, and go ahead of what else is wrong.
func TestWrongBytes(t *testing.T) {
	for _, x := range wrongs {
		for _, ahead := range []string{"", "a", "\ufffd", "?", "\"", "\"\\", "\"\\q", "\"\\u00", "1.", " "} {
			for _, behind := range []string{"", "a", "\ufffd", "?", "\"", "\\", "\x00", "1"} {
				s := ahead + x + behind
				if l, at, e := feellex.Lex(s); len(l) > 0 || at != len(ahead) || e != api.ErrUtf {
					t.Errorf("%q: %v %d %d", s, l, at, e)
				}
				if q, e := feellex.Quote(s); q != "" || e != api.ErrUtf {
					t.Errorf("Quote(%q): %q %d", s, q, e)
				}
				checkText(t, s)
			}
		}
	}
}

// P8.2: what Quote escapes, and what it doesn't.
func TestQuote(t *testing.T) {
	for s, want := range map[string]string{
		"":                          `""`,
		"a b":                       `"a b"`,
		"\"":                        `"\""`,
		"\\":                        `"\\"`,
		"\n\r\t":                    `"\n\r\t"`,
		"\\n":                       `"\\n"`,
		"\\\"":                      `"\\\""`,
		"\\u0041":                   `"\\u0041"`,
		"'/u\u00e4\ufffd\U0001F600": "\"'/u\u00e4\ufffd\U0001F600\"",
		"\u007f\u0085\u2028":        "\"\u007f\u0085\u2028\"",
	} {
		if q, e := feellex.Quote(s); q != want || e != api.OK {
			t.Errorf("%q: %q %d", s, q, e)
		}
		if q, e := feellex.Text(api.Lex{Kind: api.Str, At: -1, S: s}); q != want || e != api.OK {
			t.Errorf("%q: %q %d", s, q, e)
		}
		checkText(t, s)
	}
}

// P8.2: a token's text, whatever its place; and what is no token's.
func TestText(t *testing.T) {
	for _, c := range []struct {
		kind int
		s, t string
		want api.Errno
	}{
		{api.Word, "x_1\u00e4", "x_1\u00e4", api.OK}, {api.Word, "", "", api.ErrName}, {api.Word, "1x", "", api.ErrName}, {api.Word, "a b", "", api.ErrName}, {api.Word, "null", "", api.ErrName}, {api.Word, "a-b", "", api.ErrName}, {api.Word, "a\xff", "", api.ErrName}, {api.Word, " a", "", api.ErrName},
		{api.Key, "satisfies", "satisfies", api.OK}, {api.Key, "", "", api.ErrName}, {api.Key, "If", "", api.ErrName}, {api.Key, "if ", "", api.ErrName}, {api.Key, "+", "", api.ErrName}, {api.Key, "\xff", "", api.ErrName},
		{api.Num, "0", "0", api.OK}, {api.Num, ".50", ".50", api.OK}, {api.Num, "007.50", "007.50", api.OK}, {api.Num, "", "", api.ErrForm}, {api.Num, ".", "", api.ErrForm}, {api.Num, "1.", "", api.ErrForm}, {api.Num, "1.2.3", "", api.ErrForm}, {api.Num, "-1", "", api.ErrForm}, {api.Num, "1 ", "", api.ErrForm}, {api.Num, " 1", "", api.ErrForm}, {api.Num, "1e3", "", api.ErrForm}, {api.Num, "\u0661", "", api.ErrForm}, {api.Num, "1\xff", "", api.ErrForm},
		{api.Sign, "**", "**", api.OK}, {api.Sign, "", "", api.ErrLex}, {api.Sign, "!", "", api.ErrLex}, {api.Sign, "* *", "", api.ErrLex}, {api.Sign, "==", "", api.ErrLex}, {api.Sign, "()", "", api.ErrLex}, {api.Sign, "\"", "", api.ErrLex}, {api.Sign, "a", "", api.ErrLex}, {api.Sign, "\xff", "", api.ErrLex},
		{api.Finish, "", "", api.OK}, {api.Finish, " ", "", api.ErrArg}, {api.Finish, "\xff", "", api.ErrArg},
		{-1, "", "", api.ErrArg}, {6, "", "", api.ErrArg}, {6, "\xff", "", api.ErrArg}, {math.MinInt, "a", "", api.ErrArg}, {math.MaxInt, "1", "", api.ErrArg}, {256, "a", "", api.ErrArg}, {1 << 32, "a", "", api.ErrArg},
	} {
		for _, at := range []int{0, 1, -1, math.MinInt, math.MaxInt} {
			if s, e := feellex.Text(api.Lex{Kind: c.kind, At: at, S: c.s}); s != c.t || e != c.want {
				t.Errorf("%d %q: %q %d", c.kind, c.s, s, e)
			}
		}
		checkText(t, c.s)
	}
}

// P8.2: each short text, as each kind of token.
func TestEveryTokenText(t *testing.T) {
	testaid.EveryText([]string{"1", ".", "a", "\u00e4", "if", " ", "*", "=", "!", "<", "\"", "\\", "\n", "\xff"}, 3, func(s string) { checkText(t, s) })
	for c := range 256 {
		b := string([]byte{byte(c)})
		for _, s := range []string{b, "1" + b, b + "1", "a" + b, b + "a", "*" + b, b + "="} {
			checkText(t, s)
		}
	}
}

// anyToken is a right token by chance.
func anyToken(r *rand.Rand) api.Lex {
	of := func(l ...string) string { return l[r.Intn(len(l))] }
	row := func(most int, l ...string) string {
		s := ""
		for range r.Intn(most + 1) {
			s += of(l...)
		}
		return s
	}
	switch r.Intn(5) {
	case 0:
		return api.Lex{Kind: api.Word, S: of("a", "x", "_", "\u00e4", "\ufffd", "Z") + row(3, "0", "9", "_", "q", "\U00010000", "\u00ff")}
	case 1:
		return api.Lex{Kind: api.Key, S: of(keywords...)}
	case 2:
		return api.Lex{Kind: api.Num, S: of("0", "12", "007", "1.5", ".5", "00.00", ".0", strings.Repeat("9", 1200)+"."+strings.Repeat("0", 1200))}
	case 3:
		return api.Lex{Kind: api.Str, S: row(5, "\"", "\\", "\n", "\r", "\t", "a", "u0041", " ", "\u00e4", "\ufffd", "\U0001F600", "'", "n")}
	}
	return api.Lex{Kind: api.Sign, S: of(signs...)}
}

// P8.3: tokens' texts, with a blank between two, are those tokens, and a Finish.
func TestTokensAgain(t *testing.T) {
	r := rand.New(rand.NewSource(83))
	for range 20000 {
		l := []api.Lex{}
		for range r.Intn(8) {
			l = append(l, anyToken(r))
		}
		checkAgain(t, append(l, api.Lex{Kind: api.Finish}))
		var s strings.Builder
		for _, x := range l { // side by side, too, with or without blanks
			text, _ := feellex.Text(x)
			s.WriteString(text + []string{"", " ", "\t\r\n"}[r.Intn(3)])
		}
		check(t, s.String())
	}
}

// P8.1, P8.2: texts of pieces by chance, right and wrong.
func TestPieces(t *testing.T) {
	r := rand.New(rand.NewSource(8))
	pieces := []string{"a", "net price", "if", "1", ".", "..", "1.5", " ", "\n", "\"", "\"", "\\n", "\\\"", "\\\\", "\\u0041", "*", "<=", "(", ")", "\u00e4", "\ufffd", "{", ":", "!=", "\\", "\\q", "\\ud800", "?", "!", "\u00d7", "\xff"}
	for n := range 40000 {
		l := pieces
		if n%4 > 0 { // most of them right for long
			l = pieces[:len(pieces)-7]
		}
		var b strings.Builder
		for range r.Intn(12) {
			b.WriteString(l[r.Intn(len(l))])
		}
		check(t, b.String())
		checkText(t, b.String())
	}
}

// P8.1, P8.2: texts of many bytes, and of many tokens, take no more time than goes with them.
func TestLong(t *testing.T) {
	n := 1 << 20
	for s, tokens := range map[string]int{
		strings.Repeat("a", n): 1, strings.Repeat("1", n): 1, strings.Repeat(" ", n): 0, strings.Repeat("if ", n): n,
		strings.Repeat("1.", n): n, strings.Repeat(".", n): n / 2, strings.Repeat("*", n+1): n/2 + 1, strings.Repeat(`""`, n): n,
		`"` + strings.Repeat(`\"`, n) + `"`: 1, `"` + strings.Repeat(`\u00e4`, n) + `"`: 1, strings.Repeat("\u00e4 ", n): n,
	} {
		l, at, e := feellex.Lex(s)
		if len(l) != tokens+1 || at != len(s) || e != api.OK || l[tokens] != (api.Lex{Kind: api.Finish, At: len(s)}) {
			t.Errorf("%.10q: %d tokens, %d %d", s, len(l), at, e)
		}
		if l, at, e := feellex.Lex(s + "?"); len(l) > 0 || at != len(s) || e != api.ErrLex {
			t.Errorf("%.10q: %d tokens, %d %d", s, len(l), at, e)
		}
		if l, at, e := feellex.Lex(s + "\"" + s[1:]); e == api.OK && len(l) == 0 || e != api.OK && (len(l) > 0 || at > 2*len(s)) {
			t.Errorf("%.10q: %d tokens, %d %d", s, len(l), at, e)
		}
		if q, e := feellex.Quote(s); e != api.OK || len(q) < len(s)+2 {
			t.Errorf("%.10q: %d bytes, %d", s, len(q), e)
		}
	}
}

// P8.1: who changes an answer changes no other one.
func TestNew(t *testing.T) {
	s := "a if 1 \"x\" +"
	want, _, _ := toldLex(s)
	first, _, _ := feellex.Lex(s)
	clear(first[:cap(first)])
	second, _, _ := feellex.Lex(s)
	if !slices.Equal(second, want) || !slices.Equal(first, make([]api.Lex, len(want))) {
		t.Error(first, second)
	}
}

// P8.1, P8.2: many may ask at a time.
func TestSideBySide(t *testing.T) {
	var all sync.WaitGroup
	for range 8 {
		all.Go(func() {
			for range 200 {
				s := "if net price >= 1.50 then \"a\\n\" else [1..x]"
				want, wat, _ := toldLex(s)
				if l, at, e := feellex.Lex(s); !slices.Equal(l, want) || at != wat || e != api.OK {
					t.Error(l, at, e)
				}
			}
		})
	}
	all.Wait()
}
