package subst_test

import (
	"slices"
	"strconv"
	"strings"
	"testing"

	"millwright/api"
	"millwright/subst"
)

// texts is all texts of up to most bytes out of an alphabet.
func texts(alphabet string, most int) []string {
	all := []string{""}
	for from := 0; most > 0; most-- {
		to := len(all)
		for _, s := range all[from:to] {
			for i := range len(alphabet) {
				all = append(all, s+alphabet[i:i+1])
			}
		}
		from = to
	}
	return all
}

// chance is numbers without a plan, the same ones each time.
type chance uint64

// below is a number of 0 up to, but not, another one.
func (c *chance) below(n int) int {
	*c ^= *c << 13
	*c ^= *c >> 7
	*c ^= *c << 17
	return int(uint64(*c) >> 16 % uint64(n))
}

// text is a text of fewer than most bytes: of any bytes, or of one of some alphabets.
func (c *chance) text(most int) string {
	alphabets := []string{"a", "ab", "a%", "a&", "ab%&", "%&", "a./", "ab%&./", "\x00\xff\xc3%&"}
	out := make([]byte, c.below(most))
	pick := c.below(len(alphabets) + 1)
	for i := range out {
		if pick == len(alphabets) {
			out[i] = byte(c.below(256))
		} else {
			out[i] = alphabets[pick][c.below(len(alphabets[pick]))]
		}
	}
	return string(out)
}

// fitting is a text that fits a pattern, or nearly so.
func (c *chance) fitting(pattern string, most int) string {
	at := wildOf(pattern)
	if at < 0 {
		return pattern
	}
	return pattern[:at] + c.text(most) + pattern[at+1:]
}

// list is words, of which many fit a pattern.
func (c *chance) list(pattern string, most int) []string {
	var out []string
	for range c.below(most) {
		switch c.below(4) {
		case 0:
			out = append(out, c.text(8))
		case 1:
			if len(out) > 0 {
				out = append(out, out[c.below(len(out))])
			}
		default:
			out = append(out, c.fitting(pattern, 8))
		}
	}
	return out
}

// one is the text of a single byte.
func one(b int) string { return string([]byte{byte(b)}) }

// sized is a text of n bytes.
func sized(n int) string { return strings.Repeat("w", n) }

// told is texts as a message shows them: great ones just as far as one can read them.
func told(list ...string) string {
	const most = 400
	var out []string
	for _, s := range list[:min(len(list), most)] {
		out = append(out, strconv.Quote(s[:min(len(s), most)]))
	}
	return strconv.Itoa(len(list)) + " [" + strings.Join(out, " ") + "]"
}

// The document's words once more, byte by byte.

func isWild(b byte) bool { return b == 37 || b == 38 }

// wildOf is where the first % or & stands, -1 without one.
func wildOf(pattern string) int {
	for i := range len(pattern) {
		if isWild(pattern[i]) {
			return i
		}
	}
	return -1
}

// isNarrow tells whether a stem has no point (46) and no stroke (47).
func isNarrow(s string) bool {
	for i := range len(s) {
		if s[i] == 46 || s[i] == 47 {
			return false
		}
	}
	return true
}

// matched is the stem of a text that fits: every part of the text is tried.
func matched(pattern, s string) (string, bool) {
	at := wildOf(pattern)
	if at < 0 {
		return "", s == pattern
	}
	for from := range len(s) + 1 {
		for to := from; to <= len(s); to++ {
			if s[:from] == pattern[:at] && s[to:] == pattern[at+1:] && (pattern[at] == 37 || isNarrow(s[from:to])) {
				return s[from:to], true
			}
		}
	}
	return "", false
}

// filled is a pattern, each of whose % and & is the stem.
func filled(pattern, s string) string {
	var out []byte
	for i := range len(pattern) {
		if isWild(pattern[i]) {
			out = append(out, s...)
		} else {
			out = append(out, pattern[i])
		}
	}
	return string(out)
}

// putted is a word that is put.
func putted(w, from, to string) string {
	if s, fits := matched(from, w); fits {
		return filled(to, s)
	}
	return w
}

// puttedAll is each of a list, in order; nothing, if one is too long then.
func puttedAll(list []string, from, to string) ([]string, error) {
	var out []string
	for _, w := range list {
		out = append(out, putted(w, from, to))
	}
	for _, w := range out {
		if len(w) > api.MaxWord {
			return nil, api.ErrLong
		}
	}
	return out, nil
}

// parted is the words of a list that fit, and those that don't.
func parted(list []string, pattern string) (chosen, others []string) {
	for _, w := range list {
		if _, fits := matched(pattern, w); fits {
			chosen = append(chosen, w)
		} else {
			others = append(others, w)
		}
	}
	return chosen, others
}

// signsOf is how many % and & a pattern has.
func signsOf(pattern string) int {
	n := 0
	for i := range len(pattern) {
		if isWild(pattern[i]) {
			n++
		}
	}
	return n
}

// sameList tells whether two lists are the same; one without elements and nil are.
func sameList(a, b []string) bool { return slices.Equal(a, b) }

// patterns is patterns of many kinds: without a sign, with one or the other first, last and between, with several.
func patterns() []string {
	return []string{"", "a", ".", "x.c", "d/x.c", "%", "&", "%.c", "&.c", "d/%", "d/&", "d/%.c", "d/&.c", "a%a", "a&a", "%%", "&&", "%&", "&%", "%.%", "&.&", "%.&", "&.%", "a%b%c", "a%b&c", "a&b%c", "a&b&c", "%/%.c", "&/&.c", "\xff%", "%\x00", "&\xfe&"}
}

// words is words of many kinds.
func words() []string {
	return []string{"", "a", "aa", "aba", "a.a", "b", ".", "/", "..", "x", "x.c", "x.h", "y.c", ".c", "c", "x.y.c", "d/", "d/x", "d/x.c", "d/x.y.c", "d/e/x.c", "e/x.c", "%", "&", "%%", "&&", "%&", "&%", "x%", "x&", "x.%", "x.&", "%.c", "&.c", "d/%.c", "d/&.c", "ab%c", "ab&c", "aXb%c", "aXb&c", "a.b%c", "a%b%c", "a%b&c", "a&b%c", "a&b&c", "x/%.c", "x/&.c", "\xff", "\xffx", "x\x00", "x\xfe&", "a b", "'a'", "$a", "\n", "\u00e9"}
}

// P16.1, of Word

// isPut wants what a word is once it is put.
func isPut(t *testing.T, w, from, to, want string) {
	t.Helper()
	if got := subst.Word(w, from, to); got != want {
		t.Errorf("Word(%s) is %s, not %s", told(w, from, to), told(got), told(want))
	}
}

// stays wants that a word stays, whatever is put in the place of those that fit.
func stays(t *testing.T, w, from string) {
	t.Helper()
	for _, to := range []string{"", "new", "%", "&", "%.new", "new/&", "%%", w, from} {
		isPut(t, w, from, to, w)
	}
}

func TestWordWithoutASign(t *testing.T) {
	for _, w := range []string{"", "a", "ab", "x.c", "d/x.c", ".", "/", "*", "\x00", "\xff", "\u00e9", "a b", "'a'", "$x", "\\", sized(5000)} {
		isPut(t, w, w, "", "")
		isPut(t, w, w, "b", "b")
		isPut(t, w, w, "new.o", "new.o")
		isPut(t, w, w, w, w)
		isPut(t, w, w, sized(5000), sized(5000))
		for _, more := range []string{"q", ".", "/", "%", "&", "\x00", "xyz"} {
			stays(t, w+more, w)
			stays(t, more+w, w)
			stays(t, w, w+more+more+"q")
		}
		if w != "" {
			stays(t, "", w)
			stays(t, w[1:], w)
			stays(t, w[:len(w)-1], w)
			stays(t, w+w, w)
			stays(t, "q"+w[1:], w)
			stays(t, w[:len(w)-1]+"q", w)
		}
	}
	stays(t, "A", "a")
	stays(t, "x.c", "x.h")
	stays(t, "a", "")
	stays(t, "a", "b")
	stays(t, "%", "a")
	stays(t, "a.c", "a*c")
}

// Without a sign in from the stem is empty: the signs of to go.
func TestWordWithSignsInToAlone(t *testing.T) {
	isPut(t, "a", "a", "%", "")
	isPut(t, "a", "a", "&", "")
	isPut(t, "a", "a", "%.o", ".o")
	isPut(t, "a", "a", "d/&", "d/")
	isPut(t, "a", "a", "d/%.o", "d/.o")
	isPut(t, "a", "a", "x%y&z", "xyz")
	isPut(t, "a", "a", "%&%&", "")
	isPut(t, "", "", "%", "")
	isPut(t, "", "", "x%", "x")
	isPut(t, "x.c", "x.c", "%.c", ".c")
}

func TestWordWithASign(t *testing.T) {
	cases := []struct{ w, from, to, want string }{
		{"x.c", "%.c", "%.o", "x.o"},
		{"y.h", "%.c", "%.o", "y.h"},
		{"x.c", "%.c", "b", "b"},
		{"x.c", "%.c", "", ""},
		{"x.c", "%.c", "%", "x"},
		{"x.c", "%.c", "%.c", "x.c"},
		{"x.c", "%.c", "d/%.o", "d/x.o"},
		{"x.c", "%.c", "d/%", "d/x"},
		{"x.c", "%.c", "&.o", "x.o"},
		{"x.c", "%.c", "d/&", "d/x"},
		{"x.c", "%.c", "%%", "xx"},
		{"x.c", "%.c", "&&", "xx"},
		{"x.c", "%.c", "%&", "xx"},
		{"x.c", "%.c", "&%", "xx"},
		{"x.c", "%.c", "%/%.o", "x/x.o"},
		{"x.c", "%.c", "a%b&c%d", "axbxcxd"},
		{"x.y.c", "%.c", "%.o", "x.y.o"},
		{"d/x.c", "%.c", "%.o", "d/x.o"},
		{"x.c", "%.c", "lib.a(%.o)", "lib.a(x.o)"},
		{"x.c", "%", "d/%", "d/x.c"},
		{"x.c", "%", "new", "new"},
		{"x.c", "%", "%%", "x.cx.c"},
		{"d/x", "d/%", "e/%", "e/x"},
		{"d/x", "d/%", "%", "x"},
		{"d/x", "d/%", "%/d", "x/d"},
		{"e/x", "d/%", "%", "e/x"},
		{"d/x.c", "d/%.c", "e/%.o", "e/x.o"},
		{"d/x.h", "d/%.c", "e/%.o", "d/x.h"},
		{"e/x.c", "d/%.c", "e/%.o", "e/x.c"},
		{"x.c", "&.c", "&.o", "x.o"},
		{"x.c", "&.c", "%.o", "x.o"},
		{"x.c", "&.c", "b", "b"},
		{"x.c", "&.c", "", ""},
		{"x.c", "&.c", "%&", "xx"},
		{"x.c", "&.c", "a&b%c&d", "axbxcxd"},
		{"d/x", "d/&", "e/%", "e/x"},
		{"d/x.c", "d/&.c", "e/&.o", "e/x.o"},
		{"x", "&", "d/&", "d/x"},
		{"x", "&", "%%", "xx"},
		{"aba", "a%a", "<%>", "<b>"},
		{"aba", "a&a", "<%>", "<b>"},
		{"a.a", "a%a", "<%>", "<.>"},
		{"a", "a%a", "<%>", "a"},
		{"ab", "ab%b", "<%>", "ab"},
		{"aba", "ab%ba", "<%>", "aba"},
		{"d/x", "d/%/x", "<%>", "d/x"},
		{"\xff\xfe", "\xff%", "%\x00", "\xfe\x00"},
		{"\u00e9", "\xc3%", "<%>", "<\xa9>"},
		{"-lm", "-l%", "lib%.a", "libm.a"},
	}
	for _, c := range cases {
		isPut(t, c.w, c.from, c.to, c.want)
	}
	for _, w := range []string{"", "c", "x", "x.h", "x.cc", "x.c ", "x.C", "xc", "x.c/", "x.c%"} {
		stays(t, w, "%.c")
		stays(t, w, "&.c")
		stays(t, w, "d/%.c")
		stays(t, w, "d/&.c")
	}
}

// A stem that has a point or a stroke doesn't fit an &.
func TestWordThatIsNotNarrow(t *testing.T) {
	for _, s := range []string{".", "/", "x.", ".x", "x.y", "x/", "/x", "x/y", "./", "a/b.c", "..", "//", "%.", "&/", "x./y", "." + sized(3000), sized(3000) + "/"} {
		for _, side := range []struct{ ahead, behind string }{{"", ""}, {"", ".c"}, {"d/", ""}, {"d/", ".c"}, {"a", "a"}} {
			w := side.ahead + s + side.behind
			stays(t, w, side.ahead+"&"+side.behind)
			isPut(t, w, side.ahead+"%"+side.behind, "<%>", "<"+s+">")
			isPut(t, w, side.ahead+"%"+side.behind, "<&>", "<"+s+">")
		}
	}
	isPut(t, "d.e/x.c", "d.e/&.c", "<&>", "<x>")
	isPut(t, "d.e/x.y.c", "d.e/&.c", "<&>", "d.e/x.y.c")
	isPut(t, "x.c", "&.c", "a.b/&.o", "a.b/x.o")
}

func TestWordWithAnEmptyStem(t *testing.T) {
	for _, sign := range []string{"%", "&"} {
		isPut(t, "", sign, "", "")
		isPut(t, "", sign, "%", "")
		isPut(t, "", sign, "&", "")
		isPut(t, "", sign, "new", "new")
		isPut(t, "", sign, "<%>", "<>")
		isPut(t, "", sign, "%&%", "")
		isPut(t, ".c", sign+".c", "%.o", ".o")
		isPut(t, ".c", sign+".c", "%", "")
		isPut(t, ".c", sign+".c", "d/%.o", "d/.o")
		isPut(t, ".c", sign+".c", "a%b&c", "abc")
		isPut(t, "d/", "d/"+sign, "e/%", "e/")
		isPut(t, "d/", "d/"+sign, "&", "")
		isPut(t, "d/.c", "d/"+sign+".c", "%.o", ".o")
		isPut(t, "aa", "a"+sign+"a", "<%>", "<>")
	}
	stays(t, "", "x%")
	stays(t, "", "&x")
	stays(t, "", "x")
	stays(t, "", "%%")
	stays(t, "", "%&")
}

// The signs of a stem are not filled again.
func TestWordWithSignsInItsStem(t *testing.T) {
	for _, s := range []string{"%", "&", "%%", "&&", "%&", "&%", "a%", "&a", "a%b&c", "%o", strings.Repeat("%&", 500)} {
		for _, sign := range []string{"%", "&"} {
			isPut(t, s, sign, "%", s)
			isPut(t, s, sign, "&", s)
			isPut(t, s, sign, "%%", s+s)
			isPut(t, s, sign, "%&", s+s)
			isPut(t, s, sign, "d/&;%;", "d/"+s+";"+s+";")
			isPut(t, s, sign, "new", "new")
			isPut(t, s+".c", sign+".c", "%.o", s+".o")
			isPut(t, "d/"+s+".c", "d/"+sign+".c", "&", s)
			isPut(t, "d/"+s, "d/"+sign, "%/%", s+"/"+s)
		}
	}
}

// The signs behind the first one stand for themselves in from.
func TestWordWithSeveralSignsInFrom(t *testing.T) {
	cases := []struct{ w, from, to, want string }{
		{"%", "%%", "<%>", "<>"},
		{"%%", "%%", "<%>", "<%>"},
		{"x%", "%%", "<%>", "<x>"},
		{"x%", "%%", "%%", "xx"},
		{"x%", "%%", "%", "x"},
		{"x%", "&%", "<&>", "<x>"},
		{"x&", "%&", "<%>", "<x>"},
		{"x&", "&&", "<%>", "<x>"},
		{"x.y&", "%&", "<%>", "<x.y>"},
		{"a1b%c", "a%b%c", "<%>", "<1>"},
		{"a1b&c", "a%b&c", "<%>", "<1>"},
		{"a1b%c", "a&b%c", "<%>", "<1>"},
		{"a1b&c", "a&b&c", "<%>", "<1>"},
		{"a%b%c", "a%b%c", "a%b%c", "a%b%c"},
		{"a1b%c", "a%b%c", "a%b%c", "a1b1c"},
		{"x/%.c", "%/%.c", "%/%.o", "x/x.o"},
		{"x/&.c", "&/&.c", "%", "x"},
	}
	for _, c := range cases {
		isPut(t, c.w, c.from, c.to, c.want)
	}
	for _, w := range []string{"", "x", "xx", "x&", "%x", "%&"} {
		stays(t, w, "%%")
		stays(t, w, "&%")
	}
	for _, w := range []string{"", "x", "x%", "&x", "&%"} {
		stays(t, w, "%&")
		stays(t, w, "&&")
	}
	for _, w := range []string{"a1b1c", "a1b2c", "abc", "a1b%", "1b%c", "a1b&&c", "a1b%%c"} {
		stays(t, w, "a%b%c")
		stays(t, w, "a%b&c")
		stays(t, w, "a&b%c")
		stays(t, w, "a&b&c")
	}
	stays(t, "x/x.c", "%/%.c")
	stays(t, "x.y%", "&%")
	stays(t, "a/b&c", "a&b&c")
}

func TestWordOfEveryByte(t *testing.T) {
	for b := range 256 {
		s := one(b)
		for _, from := range []string{"%", "&", s, "a" + s, "%.c", "&" + s, s + "%", "a%c", "a&c"} {
			for _, to := range []string{s, s + "%", "&" + s, "x" + s + "%" + s + "y"} {
				for _, w := range []string{s, s + ".c", "a" + s, "a" + s + "c", s + s, "x"} {
					isPut(t, w, from, to, putted(w, from, to))
				}
			}
		}
	}
}

func TestWordOfManyKinds(t *testing.T) {
	for _, w := range words() {
		for _, from := range patterns() {
			for _, to := range patterns() {
				isPut(t, w, from, to, putted(w, from, to))
			}
		}
	}
}

func TestWordOfAllShortTexts(t *testing.T) {
	for _, w := range texts("a%&.", 3) {
		for _, from := range texts("a%&.", 3) {
			for _, to := range texts("b%&", 3) {
				isPut(t, w, from, to, putted(w, from, to))
			}
		}
	}
}

func TestWordWithoutAPlan(t *testing.T) {
	c := chance(1)
	fit := 0
	for range 60000 {
		from, to := c.text(12), c.text(20)
		for _, w := range []string{c.text(20), c.fitting(from, 20)} {
			isPut(t, w, from, to, putted(w, from, to))
			if _, is := matched(from, w); is {
				fit++
			}
		}
	}
	if fit < 20000 {
		t.Errorf("just %d words fit", fit)
	}
}

// A single word isn't bounded.
func TestGreatWords(t *testing.T) {
	const great = 1 << 20
	for _, n := range []int{api.MaxWord - 1, api.MaxWord, api.MaxWord + 1, great} {
		isPut(t, sized(n), "%", "%", sized(n))
		isPut(t, sized(n), "&", "d/%.o", "d/"+sized(n)+".o")
		isPut(t, sized(n), sized(n), "b", "b")
		isPut(t, sized(n), sized(n-1)+"%", "<%>", "<w>")
		isPut(t, sized(n), "&"+sized(n), "<%>", "<>")
		isPut(t, sized(n), sized(n), sized(n)+"%", sized(n))
		isPut(t, sized(n), sized(n+1), "b", sized(n))
		isPut(t, sized(n), sized(n)+"%w", "b", sized(n))
	}
	isPut(t, "xy", "%y", strings.Repeat("%&", great), strings.Repeat("xx", great))
	isPut(t, sized(1000), "%", strings.Repeat("&", 1000), sized(1000000))
}
