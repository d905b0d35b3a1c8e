package stem_test

import (
	"strings"
	"testing"

	"millwright/stem"
)

// P15.1, of Match

// fits wants that a text fits a pattern, with a stem.
func fits(t *testing.T, pattern, s, want string) {
	t.Helper()
	if got, is := stem.Match(pattern, s); !is || got != want {
		t.Errorf("Match(%s) is %s, %v, not %s", told(pattern, s), told(got), is, told(want))
	}
}

// fitsNot wants that a text doesn't fit a pattern, and that no stem is told.
func fitsNot(t *testing.T, pattern, s string) {
	t.Helper()
	if got, is := stem.Match(pattern, s); is || got != "" {
		t.Errorf("Match(%s) is %s, %v, though it doesn't fit", told(pattern, s), told(got), is)
	}
}

// asked wants of a text what the document's words ask.
func asked(t *testing.T, pattern, s string) {
	t.Helper()
	if want, is := matched(pattern, s); is {
		fits(t, pattern, s, want)
	} else {
		fitsNot(t, pattern, s)
	}
}

func TestMatchWithoutASign(t *testing.T) {
	long := strings.Repeat("x", 5000)
	for _, pattern := range []string{"", "a", "ab", "abc", "a.o", "d/x.o", ".", "/", "*", "a*", "?", "\x00", "\xff", "\u00e9", " ", "'a'", "$x", long} {
		fits(t, pattern, pattern, "")
		for _, more := range []string{"a", "b", ".", "/", "%", "&", "\x00", "\xff", "xyz"} {
			fitsNot(t, pattern, pattern+more)
			fitsNot(t, pattern, more+pattern+more)
			if more+pattern != pattern+more {
				fitsNot(t, pattern, more+pattern)
			}
		}
		if pattern != "" {
			fitsNot(t, pattern, "")
			fitsNot(t, pattern, pattern[1:])
			fitsNot(t, pattern, pattern[:len(pattern)-1])
			fitsNot(t, pattern, pattern+pattern)
			fitsNot(t, pattern, "q"+pattern[1:])
			fitsNot(t, pattern, pattern[:len(pattern)-1]+"q")
		}
	}
	fitsNot(t, "a", "A")
	fitsNot(t, "abc", "adc")
	fitsNot(t, "x.o", "%.o")
	fitsNot(t, "x.o", "&.o")
}

func TestMatchOfASign(t *testing.T) {
	cases := []struct{ pattern, s, stem string }{
		{"%.o", "x.o", "x"},
		{"%.o", "xyz.o", "xyz"},
		{"%.o", ".o", ""},
		{"%.o", ".o.o", ".o"},
		{"%.o", "d/x.o", "d/x"},
		{"%.o", "x.y.o", "x.y"},
		{"%.o", "%.o", "%"},
		{"%.o", "&.o", "&"},
		{"d/%.o", "d/x.y.o", "x.y"},
		{"d/%.o", "d/.o", ""},
		{"d/%.o", "d/d/x.o", "d/x"},
		{"d/%", "d/", ""},
		{"d/%", "d/x", "x"},
		{"d/%", "d/d/", "d/"},
		{"lib.a(%.o)", "lib.a(x.o)", "x"},
		{"a%a", "aa", ""},
		{"a%a", "aaa", "a"},
		{"a%a", "aaaa", "aa"},
		{"a%a", "abaca", "bac"},
		{"ab%ba", "abba", ""},
		{"ab%ba", "abxba", "x"},
		{"ab%bc", "abbc", ""},
		{"%", "", ""},
		{"%", "x", "x"},
		{"%", "%", "%"},
		{"%", "&", "&"},
		{"%", ".", "."},
		{"%", "/", "/"},
		{"%", "d/x.y", "d/x.y"},
		{"%", "\x00\xff\n ", "\x00\xff\n "},
		{"&.o", "x.o", "x"},
		{"&.o", "xyz.o", "xyz"},
		{"&.o", ".o", ""},
		{"&.o", "%.o", "%"},
		{"&.o", "&.o", "&"},
		{"&.o", "\xff \n.o", "\xff \n"},
		{"d/&.o", "d/x.o", "x"},
		{"d.e/&/f.g", "d.e/x/f.g", "x"},
		{"a&a", "aa", ""},
		{"a&a", "aba", "b"},
		{"a&a", "aaa", "a"},
		{"&", "", ""},
		{"&", "x", "x"},
		{"&", "&", "&"},
		{"&", "%", "%"},
		{"./&", "./x", "x"},
		{".&.", "..", ""},
		{"/&/", "//", ""},
		{"\xff%", "\xff\xfe", "\xfe"},
		{"\xc3%", "\u00e9", "\xa9"},
		{"%\xa9", "\u00e9", "\xc3"},
	}
	for _, c := range cases {
		fits(t, c.pattern, c.s, c.stem)
	}
}

func TestNoMatchOfASign(t *testing.T) {
	cases := []struct{ pattern, s string }{
		{"%.o", ""},
		{"%.o", "o"},
		{"%.o", "x"},
		{"%.o", "x.c"},
		{"%.o", "x.oo"},
		{"%.o", "x.o "},
		{"%.o", "x.O"},
		{"%.o", "x.o/"},
		{"%.o", "xo"},
		{"d/%", ""},
		{"d/%", "d"},
		{"d/%", "e/x"},
		{"d/%", " d/x"},
		{"d/%", "D/x"},
		{"d/%.o", "d/x.c"},
		{"d/%.o", "e/x.o"},
		{"d/%.o", "x.o"},
		{"d/%.o", "d/o"},
		{"d/%.o", "d.o"},
		{"d/%.o", "d/"},
		{"d/%.o", ".o"},
		{"d/%.o", "xd/x.o"},
		{"d/%.o", "d/x.ox"},
		{"&.o", "d/x.o"},
		{"&.o", "x.y.o"},
		{"&.o", "..o"},
		{"&.o", "/.o"},
		{"&.o", ".o.o"},
		{"&.o", "x.c"},
		{"&.o", "o"},
		{"&.o", ""},
		{"d/&", "d/e/"},
		{"d/&", "d/x.y"},
		{"d/&", "e/x"},
		{"d/&.o", "d//.o"},
		{"d/&.o", "d/x./y.o"},
		{"d/&.o", "d/x.c"},
		{"d/&.o", "e/x.o"},
		{"&", "."},
		{"&", "/"},
		{"&", "x."},
		{"&", "/x"},
		{"&", "d/x.y"},
	}
	for _, c := range cases {
		fitsNot(t, c.pattern, c.s)
	}
}

// What stands ahead and behind would lie over each other.
func TestMatchOfWhatIsTooShort(t *testing.T) {
	cases := []struct{ ahead, behind, s string }{
		{"a", "a", "a"},
		{"ab", "ba", "aba"},
		{"ab", "b", "ab"},
		{"a", "ab", "ab"},
		{"ab", "ab", "ab"},
		{"aa", "aa", "aa"},
		{"aa", "aa", "aaa"},
		{"aaa", "a", "aaa"},
		{"a", "aaa", "aaa"},
		{"abab", "abab", "abab"},
		{"abab", "abab", "ababab"},
		{"d/", "/x", "d/x"},
		{"d.", ".o", "d.o"},
		{".", ".", "."},
		{"/", "/", "/"},
		{"x.", "x.", "x."},
		{"\xff", "\xff", "\xff"},
	}
	for _, c := range cases {
		for _, sign := range []string{"%", "&"} {
			fitsNot(t, c.ahead+sign+c.behind, c.s)
			fits(t, c.ahead+sign+c.behind, c.ahead+c.behind, "")
			fits(t, c.ahead+sign+c.behind, c.ahead+"x"+c.behind, "x")
			fitsNot(t, c.ahead+sign+c.behind, c.ahead)
			fitsNot(t, c.ahead+sign+c.behind, c.behind)
		}
	}
	for ahead := range 9 {
		for behind := range 9 {
			for n := range 20 {
				pattern := strings.Repeat("a", ahead) + "%" + strings.Repeat("a", behind)
				if s := strings.Repeat("a", n); n < ahead+behind {
					fitsNot(t, pattern, s)
				} else {
					fits(t, pattern, s, s[:n-ahead-behind])
				}
			}
		}
	}
}

// A second sign stands for itself.
func TestMatchOfSeveralSigns(t *testing.T) {
	cases := []struct{ pattern, s, stem string }{
		{"%%", "%", ""},
		{"%%", "%%", "%"},
		{"%%", "x%", "x"},
		{"%&", "&", ""},
		{"%&", "x&", "x"},
		{"%&", "&&", "&"},
		{"%&", "x.y/z&", "x.y/z"},
		{"&%", "%", ""},
		{"&%", "x%", "x"},
		{"&&", "&", ""},
		{"&&", "x&", "x"},
		{"a%b%c", "aXb%c", "X"},
		{"a%b%c", "ab%c", ""},
		{"a%b%c", "a%b%c", "%"},
		{"a%b&c", "aXb&c", "X"},
		{"a&b%c", "aXb%c", "X"},
		{"a&b&c", "aXb&c", "X"},
		{"%a%b&", "xa%b&", "x"},
		{"%.&", "x.y.&", "x.y"},
		{"&.%", "x.%", "x"},
	}
	for _, c := range cases {
		fits(t, c.pattern, c.s, c.stem)
	}
	no := []struct{ pattern, s string }{
		{"%%", ""},
		{"%%", "x"},
		{"%%", "xx"},
		{"%%", "%x"},
		{"%%", "x&"},
		{"%&", "x%"},
		{"%&", "x"},
		{"&%", "x&"},
		{"&%", "x.%"},
		{"&&", "x/&"},
		{"&&", ""},
		{"a%b%c", "aXbXc"},
		{"a%b%c", "aXbc"},
		{"a%b&c", "aXbYc"},
		{"a&b%c", "aXbYc"},
		{"a&b%c", "aX.b%c"},
		{"a&b&c", "aXbXc"},
		{"%.%", "x.x"},
	}
	for _, c := range no {
		fitsNot(t, c.pattern, c.s)
	}
}

// stems is stems of many kinds, and whether each is narrow.
func stems() map[string]bool {
	out := map[string]bool{"": true, "x": true, "xyz": true, "%": true, "&": true, "%&": true, "x%": true, "&x": true, "a b": true, "\n": true, "'": true, "$x": true, "\\": true, "-": true, "\x00\xff": true, "\u00e9": true, strings.Repeat("s", 5000): true, strings.Repeat("%", 300): true}
	for _, bound := range []string{".", "/", "..", "//", "./", "/."} {
		for _, s := range []string{bound, bound + "x", "x" + bound, "x" + bound + "y", bound + "x" + bound, bound + "%", "&" + bound, "%" + bound + "&", "x" + bound + strings.Repeat("y", 3000)} {
			out[s] = false
		}
	}
	return out
}

// sides is what may stand ahead of a sign, and behind it.
func sides() []string {
	return []string{"", "a", "ab", ".", "/", ".o", "d/", "d.e/f", "x", "\xff", " ", "'", "$", "*", "aaaa", "lib.a(", ".o)", strings.Repeat("q", 300)}
}

func TestMatchOfStems(t *testing.T) {
	for s, narrow := range stems() {
		for _, ahead := range sides() {
			for _, behind := range append(sides(), "%", "&", ".%", "&/") {
				fits(t, ahead+"%"+behind, ahead+s+behind, s)
				if narrow {
					fits(t, ahead+"&"+behind, ahead+s+behind, s)
				} else {
					fitsNot(t, ahead+"&"+behind, ahead+s+behind)
				}
			}
		}
	}
}

// Texts that begin as asked, and end otherwise, and the other way round.
func TestMatchOfWrongSides(t *testing.T) {
	for s := range stems() {
		for _, side := range []string{"ab", ".o", "d/", "b%", "lib.a(", "\xfe\xff"} {
			for i := range len(side) {
				wrong := side[:i] + "#" + side[i+1:]
				for _, sign := range []string{"%", "&"} {
					if !strings.Contains(side, "%") {
						fitsNot(t, side+sign+"zz", wrong+s+"zz")
						fitsNot(t, side+sign, wrong+s)
						fitsNot(t, side+sign+side, wrong+s+side)
					}
					fitsNot(t, "zz"+sign+side, "zz"+s+wrong)
					fitsNot(t, sign+side, s+wrong)
					fitsNot(t, "d/"+sign+side, "d/"+s+wrong)
				}
			}
		}
	}
}

func TestMatchOfEveryByte(t *testing.T) {
	for b := range 256 {
		s := one(b)
		for _, sign := range []string{"%", "&"} {
			asked(t, sign, s)
			asked(t, "a"+sign+"c", "a"+s+"c")
			asked(t, "a"+sign+"c", "a"+s+s+"c")
			asked(t, "a"+sign+s, "ab"+s)
			asked(t, s+sign+"c", s+"bc")
			asked(t, s+sign+s, s)
			asked(t, s+sign+s, s+s)
			asked(t, s+sign+s, s+"x"+s)
		}
		asked(t, s, s)
		asked(t, "a"+s+"c", "a"+s+"c")
		asked(t, "a"+s+"c", "abc")
		asked(t, "abc", "a"+s+"c")
	}
	for a := range 256 {
		for b := range 256 {
			asked(t, one(a), one(b))
			asked(t, one(a)+"%", one(b)+"x")
			asked(t, "&"+one(a), "x"+one(b))
		}
	}
}

func TestMatchOfEmptyTexts(t *testing.T) {
	for _, pattern := range []string{"", "%", "&"} {
		fits(t, pattern, "", "")
	}
	for _, pattern := range []string{"a", "%%", "%&", "&%", "&&", "a%", "%a", "&.", "/&", "a%b"} {
		fitsNot(t, pattern, "")
	}
}

func TestMatchOfAllShortTexts(t *testing.T) {
	all := texts("a%&./", 4)
	for _, pattern := range all {
		for _, s := range all {
			asked(t, pattern, s)
		}
	}
}

func TestMatchWithoutAPlan(t *testing.T) {
	c := chance(1)
	for range 60000 {
		pattern, s := c.text(8), c.text(24)
		asked(t, pattern, s)
		if at := wildOf(pattern); at >= 0 {
			asked(t, pattern, pattern[:at]+s+pattern[at+1:])
			asked(t, pattern, pattern[:at]+s)
			asked(t, pattern, s+pattern[at+1:])
		}
		asked(t, pattern, pattern)
		asked(t, s, s)
	}
}

func TestGreatMatches(t *testing.T) {
	const great = 1 << 20
	ahead, s, behind := strings.Repeat("a", great), strings.Repeat("s", great), strings.Repeat("b%", great)
	fits(t, ahead+"%"+behind, ahead+s+behind, s)
	fits(t, ahead+"&"+behind, ahead+s+behind, s)
	fits(t, ahead+"&"+behind, ahead+behind, "")
	fits(t, ahead+s, ahead+s, "")
	fitsNot(t, ahead+"&"+behind, ahead+s+"."+behind)
	fitsNot(t, ahead+"&"+behind, ahead+"/"+s+behind)
	fitsNot(t, ahead+"%"+behind, ahead+behind[1:])
	fitsNot(t, ahead+"%"+ahead, ahead+ahead[1:])
	fitsNot(t, ahead+s, ahead+s+"s")
}
