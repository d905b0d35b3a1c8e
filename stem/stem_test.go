package stem_test

import (
	"slices"
	"strconv"
	"strings"
	"testing"

	"millwright/stem"
)

// texts is all texts of up to most bytes out of an alphabet.
func texts(alphabet string, most int) []string {
	all := []string{""}
	for from := 0; most > 0; most-- {
		to := len(all)
		for _, s := range all[from:to] {
			for i := range len(alphabet) {
				all = append(all, s+alphabet[i:i+1])
			}
		}
		from = to
	}
	return all
}

// chance is numbers without a plan, the same ones each time.
type chance uint64

// below is a number of 0 up to, but not, another one.
func (c *chance) below(n int) int {
	*c ^= *c << 13
	*c ^= *c >> 7
	*c ^= *c << 17
	return int(uint64(*c) >> 16 % uint64(n))
}

// text is a text of fewer than most bytes: of any bytes, or of one of some alphabets.
func (c *chance) text(most int) string {
	alphabets := []string{"a", "ab", "a%", "a&", "ab%&", "%&", "a./", "ab%&./", "\x00\xff\xc3%&"}
	out := make([]byte, c.below(most))
	pick := c.below(len(alphabets) + 1)
	for i := range out {
		if pick == len(alphabets) {
			out[i] = byte(c.below(256))
		} else {
			out[i] = alphabets[pick][c.below(len(alphabets[pick]))]
		}
	}
	return string(out)
}

// one is the text of a single byte.
func one(b int) string { return string([]byte{byte(b)}) }

// told is texts as a message shows them: great ones just as far as one can read them.
func told(list ...string) string {
	const most = 400
	var out []string
	for _, s := range list[:min(len(list), most)] {
		out = append(out, strconv.Quote(s[:min(len(s), most)]))
	}
	return strconv.Itoa(len(list)) + " [" + strings.Join(out, " ") + "]"
}

// The document's words once more, byte by byte.

func isWild(b byte) bool { return b == 37 || b == 38 }

// wildOf is where the first % or & stands, -1 without one.
func wildOf(pattern string) int {
	for i := range len(pattern) {
		if isWild(pattern[i]) {
			return i
		}
	}
	return -1
}

// isNarrow tells whether a stem has no point (46) and no stroke (47).
func isNarrow(s string) bool {
	for i := range len(s) {
		if s[i] == 46 || s[i] == 47 {
			return false
		}
	}
	return true
}

// matched is the stem of a text that fits: every part of the text is tried.
func matched(pattern, s string) (string, bool) {
	at := wildOf(pattern)
	if at < 0 {
		return "", s == pattern
	}
	for from := range len(s) + 1 {
		for to := from; to <= len(s); to++ {
			if s[:from] == pattern[:at] && s[to:] == pattern[at+1:] && (pattern[at] == 37 || isNarrow(s[from:to])) {
				return s[from:to], true
			}
		}
	}
	return "", false
}

// filled is a pattern, each of whose % and & is the stem.
func filled(pattern, s string) string {
	var out []byte
	for i := range len(pattern) {
		if isWild(pattern[i]) {
			out = append(out, s...)
		} else {
			out = append(out, pattern[i])
		}
	}
	return string(out)
}

// P15.1

func TestTheExample(t *testing.T) {
	fits(t, "%.o", "x.o", "x")
}

// P15.1, of Wild

// stands wants the wild sign of a pattern at a place.
func stands(t *testing.T, pattern string, want int) {
	t.Helper()
	if got := stem.Wild(pattern); got != want {
		t.Errorf("Wild(%s) is %d, not %d", told(pattern), got, want)
	}
}

func TestWild(t *testing.T) {
	long := strings.Repeat("x", 5000)
	cases := []struct {
		pattern string
		want    int
	}{
		{"", -1},
		{"a", -1},
		{"a.o", -1},
		{"d/x.y.o", -1},
		{"*", -1},
		{"?", -1},
		{"\\", -1},
		{"$", -1},
		{"'", -1},
		{"\x00", -1},
		{"\xff\xfe\x80", -1},
		{"caf\u00e9", -1},
		// Two letters whose bytes, cut to fewer bits, would be a sign.
		{"\u0125\u0126", -1},
		{"\uff05\uff06\ufe60\ufe6a", -1},
		{long, -1},
		{"%", 0},
		{"&", 0},
		{"%.o", 0},
		{"&.o", 0},
		{"a%", 1},
		{"a&", 1},
		{"d/%.o", 2},
		{"d/&.o", 2},
		{"lib.a(%.o)", 6},
		{"\\%", 1},
		{"'%'", 1},
		{"$%", 1},
		{"\xff%", 1},
		{"\u00e9&", 2},
		{"\x00&", 1},
		{"%%", 0},
		{"&&", 0},
		{"%&", 0},
		{"&%", 0},
		{"a%b%c", 1},
		{"a&b&c", 1},
		{"a%b&c", 1},
		{"a&b%c", 1},
		{"ab&&%%", 2},
		{"ab%%&&", 2},
		{"%a&a%a&", 0},
		{"&a%a&a%", 0},
		{"%" + long, 0},
		{long + "&", 5000},
		{long + "%&" + long, 5000},
		{long + "&%" + long, 5000},
		{long + "\xff" + "%", 5001},
	}
	for _, c := range cases {
		stands(t, c.pattern, c.want)
	}
}

func TestWildOfEveryByte(t *testing.T) {
	for b := range 256 {
		s := one(b)
		first, between, last := -1, -1, -1
		if b == '%' || b == '&' {
			first, between, last = 0, 2, 2
		}
		stands(t, s, first)
		stands(t, s+"ab", first)
		stands(t, "ab"+s+"cd", between)
		stands(t, "ab"+s, last)
		if first < 0 {
			stands(t, s+"%&", 1)
			stands(t, s+"&%", 1)
			stands(t, s+s+"%"+s, 2)
			stands(t, strings.Repeat(s, 20)+"&", 20)
		}
		stands(t, "%"+s, 0)
		stands(t, "&"+s, 0)
	}
}

func TestWildOfTwoBytes(t *testing.T) {
	for a := range 256 {
		for b := range 256 {
			s := one(a) + one(b)
			stands(t, s, wildOf(s))
		}
	}
}

// A sign at each place of patterns of many lengths, with another one behind it.
func TestWildAtEveryPlace(t *testing.T) {
	for n := range 40 {
		for at := range n {
			for _, sign := range []string{"%", "&"} {
				ahead, behind := strings.Repeat("x", at), strings.Repeat("y", n-at-1)
				stands(t, ahead+sign+behind, at)
				stands(t, ahead+sign+behind+"%", at)
				stands(t, ahead+sign+behind+"&", at)
			}
		}
		stands(t, strings.Repeat("x", n), -1)
	}
}

func TestWildOfAllShortPatterns(t *testing.T) {
	for _, pattern := range texts("a%&.\xff", 6) {
		stands(t, pattern, wildOf(pattern))
	}
}

// P15.1, of Narrow

// isNarrowed wants of a stem whether it is narrow.
func isNarrowed(t *testing.T, s string, want bool) {
	t.Helper()
	if stem.Narrow(s) != want {
		t.Errorf("Narrow(%s) is %v", told(s), !want)
	}
}

func TestNarrow(t *testing.T) {
	long := strings.Repeat("x", 5000)
	for _, s := range []string{"", "x", "xyz", "%", "&", "%&", " ", "\n", "\\", "-0", ",", "a-b_c", "\x00", "\xff", "\u00e9", "\u012e\u012f", "\u2024\u2044\uff0e\uff0f", "\u3002", "'", "*", "?", long} {
		isNarrowed(t, s, true)
	}
	for _, s := range []string{".", "/", "..", "//", "./", "/.", "x.", ".x", "x.y", "x/", "/x", "x/y", "a/b.c", "a.b/c", ".x.", "/x/", ".x/", "/x.", "%.", "&/", "\x00.", "\xff/", "\u00e9.", "." + long, long + "/", long + "." + long, long + "/" + long + "."} {
		isNarrowed(t, s, false)
	}
}

func TestNarrowOfEveryByte(t *testing.T) {
	for b := range 256 {
		s := one(b)
		want := b != '.' && b != '/'
		for _, text := range []string{s, s + s, s + "ab", "a" + s + "b", "ab" + s, "\xff" + s, s + "\x80", strings.Repeat(s, 30)} {
			isNarrowed(t, text, want)
		}
		for _, bound := range []string{".", "/"} {
			isNarrowed(t, s+bound, false)
			isNarrowed(t, bound+s, false)
			isNarrowed(t, s+bound+s, false)
		}
	}
}

// A point or a stroke at each place of stems of many lengths.
func TestNarrowAtEveryPlace(t *testing.T) {
	for n := range 40 {
		isNarrowed(t, strings.Repeat("x", n), true)
		for at := range n {
			for _, bound := range []string{".", "/"} {
				isNarrowed(t, strings.Repeat("x", at)+bound+strings.Repeat("y", n-at-1), false)
			}
		}
	}
}

func TestNarrowOfAllShortStems(t *testing.T) {
	for _, s := range texts("a./%\xff", 6) {
		isNarrowed(t, s, isNarrow(s))
	}
}

// sameList tells whether two lists are the same; one without elements and nil are.
func sameList(a, b []string) bool { return slices.Equal(a, b) }
