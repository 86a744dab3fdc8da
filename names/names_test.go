package names_test

import (
	"math/rand"
	"slices"
	"strings"
	"testing"

	"tipstave/api"
	"tipstave/names"
	"tipstave/testaid"
)

// keys are the chapter's keywords, in the order of their bytes.
var keys = []string{"and", "between", "else", "every", "false", "for", "function", "if", "in", "not", "null", "or", "return", "satisfies", "some", "then", "true"}

// letter, and part below, tell by chapter 1's own numbers what may stand in a name.
func letter(c rune) bool {
	mayBe := c <= 55295 || 57344 <= c && c <= 65533 || 65536 <= c && c <= 1114111
	return 'A' <= c && c <= 'Z' || 'a' <= c && c <= 'z' || c == '_' || c >= 192 && c != 215 && c != 247 && mayBe
}

func digit(c rune) bool { return '0' <= c && c <= '9' }

func part(c rune) bool { return letter(c) || digit(c) || c == '-' || c == '.' || c == 183 }

func next(c rune) bool { return letter(c) || digit(c) }

// isRow asks of a text by its characters, one by one; a wrong byte is put back as none that may be.
func isRow(s string, first, other func(rune) bool) bool {
	for i, c := range []rune(strings.ToValidUTF8(s, "\x00")) {
		if i == 0 && !first(c) || !other(c) {
			return false
		}
	}
	return s != ""
}

func isPlain(s string) bool { return isRow(s, letter, part) }

func isWord(s string) bool { return isRow(s, letter, next) && !slices.Contains(keys, s) }

func isName(s string) bool {
	for _, w := range strings.Split(s, " ") {
		if !isWord(w) {
			return false
		}
	}
	return true
}

// check holds all that is answered of a text against the chapter.
func check(t *testing.T, s string) {
	t.Helper()
	if got := names.Plain(s); got != isPlain(s) {
		t.Errorf("Plain(%q) %v", s, got)
	}
	if got := names.Keyword(s); got != slices.Contains(keys, s) {
		t.Errorf("Keyword(%q) %v", s, got)
	}
	if got := names.Word(s); got != isWord(s) {
		t.Errorf("Word(%q) %v", s, got)
	}
	if got := names.Right(s); got != isName(s) {
		t.Errorf("Right(%q) %v", s, got)
	}
	checkSplit(t, s)
	checkWords(t, s)
}

func checkSplit(t *testing.T, s string) {
	t.Helper()
	prefix, local, want := "", s, api.OK
	if i := strings.IndexByte(s, ':'); i >= 0 {
		prefix, local = s[:i], s[i+1:]
		if !isPlain(prefix) {
			want = api.ErrName
		}
	}
	if !isPlain(local) {
		want = api.ErrName
	}
	if want != api.OK {
		prefix, local = "", ""
	}
	if p, l, e := names.Split(s); p != prefix || l != local || e != want {
		t.Errorf("Split(%q) %q %q %v", s, p, l, e)
	}
}

func checkWords(t *testing.T, s string) {
	t.Helper()
	var want []string
	if isName(s) {
		want = strings.Split(s, " ")
	}
	if l, ok := names.Words(s); !slices.Equal(l, want) || ok != (want != nil) {
		t.Errorf("Words(%q) %q %v", s, l, ok)
	}
}

// P2.1, P2.2: all texts of few pieces, bytes and characters at which something changes.
func TestEveryText(t *testing.T) {
	testaid.EveryText([]string{"a", "Z", "_", "7", "-", ".", ":", " ", "\u00b7", "\u00e4", "\u00d7", "\ufffd", "if", "\xff", "\xc3", "\t"}, 4, func(s string) { check(t, s) })
}

// P2.1, P2.2: words, keywords and what may stand between.
func TestEveryName(t *testing.T) {
	testaid.EveryText([]string{"a", "in", "not", "nota", " ", "  ", "\u00a0", ":", "1"}, 5, func(s string) { check(t, s) })
}

// P2.1: each character as the first one, and as another one.
func TestEveryCharacter(t *testing.T) {
	for c := rune(0); c < 0x110000; c++ {
		if 0xD800 <= c && c < 0xE000 {
			continue // halves of pairs have no bytes that a text of Go's could be made of: see TestWrongBytes
		}
		s := string(c)
		for _, ask := range []struct {
			text string
			got  bool
			want bool
		}{
			{s, names.Plain(s), letter(c)},
			{"a" + s, names.Plain("a" + s), part(c)},
			{s, names.Word(s), letter(c)},
			{"a" + s, names.Word("a" + s), next(c)},
		} {
			if ask.got != ask.want {
				t.Fatalf("%q %v", ask.text, ask.got)
			}
		}
	}
}

// P2.1: the edges that the chapter names.
func TestPlain(t *testing.T) {
	for _, s := range []string{"a", "_", "Z9", "a-b.c", "a\u00b7", "\u00e4", "\ufffd", "a\ufffd", "if", "xmlns", "x1-", "\U0001F600", "\u00d6\u00d8\u00f6\u00f8"} {
		if !names.Plain(s) {
			t.Errorf("%q should be", s)
		}
	}
	for _, s := range []string{"", "1", "-a", ".a", "\u00b7", "\u00d7", "\u00f7", "a:b", ":", ":a", "a:", "a b", " a", "a ", "a\t", "a\n", "a\x00", "a\u00d7", "a/b", "\u00aa", "\ufffe", "a\uffff"} {
		if names.Plain(s) {
			t.Errorf("%q shouldn't be", s)
		}
	}
}

// wrong are bytes that are of no character that may be.
var wrong = []string{"\x80", "\xbf", "\xc3", "\xc0\x80", "\xc1\xbf", "\xe0\x80\x80", "\xe2\x82", "\xed\xa0\x80", "\xed\xbf\xbf", "\xef\xbf", "\xef\xbf\xbe", "\xef\xbf\xbf", "\xf0\x80\x80\x80", "\xf0\x9f\x98", "\xf4\x90\x80\x80", "\xf8\x88\x80\x80\x80", "\xff", "\x00", "\x1f"}

// P2.1, P2.2: wrong bytes aren't taken for the character 65533.
func TestWrongBytes(t *testing.T) {
	for _, w := range wrong {
		for _, s := range []string{w, "a" + w, w + "a", "a" + w + "a", "\ufffd" + w, w + "\ufffd", "a:" + w, w + ":a", "a:b" + w, "a " + w, w + " a"} {
			if names.Plain(s) || names.Word(s) || names.Keyword(s) || names.Right(s) {
				t.Errorf("%q", s)
			}
			if p, l, e := names.Split(s); p != "" || l != "" || e != api.ErrName {
				t.Errorf("%q %q %q %v", s, p, l, e)
			}
			if l, ok := names.Words(s); ok || len(l) != 0 {
				t.Errorf("%q %q", s, l)
			}
		}
	}
}

// P2.1: a keyword is just that one, in these letters.
func TestKeyword(t *testing.T) {
	for _, k := range keys {
		if !names.Keyword(k) || names.Word(k) || names.Right(k) {
			t.Errorf("%q should be", k)
		}
		for _, s := range []string{strings.ToUpper(k), strings.ToUpper(k[:1]) + k[1:], k + "s", "x" + k, k[1:] + "_", k + "1", "_" + k} {
			if names.Keyword(s) || !names.Word(s) || !names.Right(s) {
				t.Errorf("%q shouldn't be", s)
			}
		}
		for _, s := range []string{k + " ", " " + k, k + "\x00", k + "\n"} {
			if names.Keyword(s) || names.Word(s) || names.Right(s) {
				t.Errorf("%q shouldn't be", s)
			}
		}
	}
	for _, s := range []string{"", "a", "item", "date", "instance", "of", "external", "list"} {
		if names.Keyword(s) {
			t.Errorf("%q shouldn't be", s)
		}
	}
}

// P2.1: a keyword is no word of a name, wherever it stands.
func TestKeywordInName(t *testing.T) {
	for _, k := range keys {
		for _, s := range []string{k + " a", "a " + k, "a " + k + " b", k + " " + k} {
			if l, ok := names.Words(s); ok || len(l) != 0 || names.Right(s) {
				t.Errorf("%q %q", s, l)
			}
		}
	}
}

// P2.1.
func TestWord(t *testing.T) {
	for _, s := range []string{"a", "_", "a1", "True", "iffy", "\u00e4\u00f6", "\ufffd", "price_2", "\U0001F600"} {
		if !names.Word(s) {
			t.Errorf("%q should be", s)
		}
	}
	for _, s := range []string{"", "1", "1a", "a-b", "a.b", "a\u00b7", "a b", " a", "a ", "a:b", "a'", "?", "\u00d7", "a\u00f7", "if"} {
		if names.Word(s) {
			t.Errorf("%q shouldn't be", s)
		}
	}
}

// P2.1: keywords are told in their order, as often as asked.
func TestAll(t *testing.T) {
	all := names.All()
	for range 3 {
		if l := slices.Collect(all); !slices.Equal(l, keys) {
			t.Errorf("%q", l)
		}
		if l := slices.Collect(names.All()); !slices.Equal(l, keys) {
			t.Errorf("%q", l)
		}
	}
}

// P2.1: who has enough of keywords is told no more, and is told all when asking again.
func TestAllIsLeft(t *testing.T) {
	all := names.All()
	for n := range keys {
		var l []string
		for k := range all {
			if l = append(l, k); len(l) > n {
				break
			}
		}
		if !slices.Equal(l, keys[:n+1]) {
			t.Errorf("%d %q", n, l)
		}
	}
}

// P2.1: two who are told at a time have nothing to do with one another.
func TestAllWithinAll(t *testing.T) {
	all, n := names.All(), 0
	for a := range all {
		for b := range all {
			if a != keys[n/len(keys)] || b != keys[n%len(keys)] {
				t.Fatal(a, b, n)
			}
			n++
		}
	}
	if n != len(keys)*len(keys) {
		t.Error(n)
	}
}

// P2.2: the chapter's examples, and the edges.
func TestSplit(t *testing.T) {
	for s, want := range map[string][2]string{"a": {"", "a"}, "a:b-1": {"a", "b-1"}, "_:_": {"_", "_"}, "dmn:input.x": {"dmn", "input.x"}, "if:in": {"if", "in"}, "\u00e4:\ufffd": {"\u00e4", "\ufffd"}, "xmlns:p": {"xmlns", "p"}, "a\u00b7:b\u00b7": {"a\u00b7", "b\u00b7"}} {
		if p, l, e := names.Split(s); p != want[0] || l != want[1] || e != api.OK {
			t.Errorf("%q %q %q %v", s, p, l, e)
		}
	}
	for _, s := range []string{"", ":", "::", "a:", ":b", ":a:b", "a:b:", "a::b", "a:b:c", "1", "1:a", "a:1", "-:a", "a:-", "a :b", "a: b", "a b", "a:b ", " a:b", "a\x00:b"} {
		if p, l, e := names.Split(s); p != "" || l != "" || e != api.ErrName {
			t.Errorf("%q %q %q %v", s, p, l, e)
		}
	}
}

// P2.2: the chapter's examples, and the edges.
func TestWords(t *testing.T) {
	for s, want := range map[string][]string{"a": {"a"}, "net price": {"net", "price"}, "net price of x1": {"net", "price", "of", "x1"}, "a a a": {"a", "a", "a"}, "_ \ufffd": {"_", "\ufffd"}, "True iffy": {"True", "iffy"}} {
		if l, ok := names.Words(s); !ok || !slices.Equal(l, want) || !names.Right(s) {
			t.Errorf("%q %q %v", s, l, ok)
		}
	}
	for _, s := range []string{"", " ", "  ", " a", "a ", "a  b", "a   b", "a\tb", "a\nb", "a\rb", "a\u00a0b", "a \tb", "net  price", "if x", "x if", "a 1", "1 a", "a-b", "a +b", "a:b", "a.b c"} {
		if l, ok := names.Words(s); ok || len(l) != 0 || names.Right(s) {
			t.Errorf("%q %q %v", s, l, ok)
		}
	}
}

// P2.2: what is answered once isn't told again.
func TestWordsAreNew(t *testing.T) {
	for range 2 {
		l, ok := names.Words("net price")
		if !ok || !slices.Equal(l, []string{"net", "price"}) {
			t.Fatalf("%q", l)
		}
		l[0], l[1] = "if", ""
	}
}

// P2.1, P2.2: texts of many characters, and of many words.
func TestLong(t *testing.T) {
	long := strings.Repeat("a\u00e4", 1<<18)
	name := strings.Repeat("net ", 1<<16) + "price"
	if !names.Plain(long) || !names.Word(long) || names.Plain(long+"\xff") || names.Word(long+"-") || names.Keyword(long) {
		t.Error("a long word")
	}
	if p, l, e := names.Split(long + ":" + long); p != long || l != long || e != api.OK {
		t.Error("a long name of XML")
	}
	if l, ok := names.Words(name); !ok || len(l) != 1<<16+1 || l[1<<16] != "price" || names.Right(name+" in") {
		t.Error("a long name of FEEL")
	}
}

// P2.3: names of many pieces, right and wrong: words are put together to the name, and names to a name.
func TestNamesTogether(t *testing.T) {
	r := rand.New(rand.NewSource(1))
	pieces := []string{"a", "net", "x1", "if", "\u00e4", "\ufffd", "_", " ", "  ", "1", "in"}
	was := "a b"
	for range 20000 {
		var b strings.Builder
		for range 1 + r.Intn(7) {
			b.WriteString(pieces[r.Intn(len(pieces))])
			b.WriteString([]string{"", " ", " "}[r.Intn(3)])
		}
		s := strings.TrimSpace(b.String())
		check(t, s)
		l, ok := names.Words(s)
		if !ok {
			continue
		}
		if strings.Join(l, " ") != s || slices.ContainsFunc(l, func(w string) bool { return !names.Word(w) || !names.Right(w) }) {
			t.Fatalf("%q %q", s, l)
		}
		both, ok := names.Words(was + " " + s)
		first, _ := names.Words(was)
		if !ok || !slices.Equal(both, append(first, l...)) {
			t.Fatalf("%q %q %q", was, s, both)
		}
		was = s
	}
}
