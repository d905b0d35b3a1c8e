package quote_test

import (
	"math"
	"strings"
	"testing"

	"millwright/quote"
)

// P11.1, of End

func TestEnd(t *testing.T) {
	cases := []struct {
		s        string
		at, want int
	}{
		{"''", 0, 2},
		{"'a'", 0, 3},
		{"'a b'", 0, 5},
		{"'a\tb\nc'", 0, 7},
		{"'a'b", 0, 3},
		{"'a' 'b'", 0, 3},
		{"'a' 'b'", 4, 7},
		{"x'a'y", 1, 4},
		{"a 'b c' d", 2, 7},
		{"'\x00\xff'", 0, 4},
		{"'\\'", 0, 3},
		{"'a#$'", 0, 5},
		// Two quotes within.
		{"'a''b'", 0, 6},
		{"''''", 0, 4},
		{"''''''", 0, 6},
		{"'''a'", 0, 5},
		{"'a'''", 0, 5},
		{"'a''''b'", 0, 8},
		{"'it''s' here", 0, 7},
		{"'a'' ''b' c", 0, 9},
		// At either of two, and at the one that closes, begins what stands there.
		{"'a''b'", 2, 4},
		{"'a''b'", 3, 6},
		{"''''", 1, -1},
		{"''''", 2, 4},
		{"''''", 3, -1},
		{"'a'b'", 2, 5},
		{"'a' 'b'", 2, 5},
		{"'a'", 2, -1},
		{"''", 1, -1},
		// There is no quote.
		{"'a'", 1, -1},
		{"a'b'", 0, -1},
		{"'a'b", 3, -1},
		{"a", 0, -1},
		{"`a`", 0, -1},
		{"\"a\"", 0, -1},
		{"", 0, -1},
		// There is no end.
		{"'", 0, -1},
		{"'a", 0, -1},
		{"'''", 0, -1},
		{"'a''", 0, -1},
		{"'a''b", 0, -1},
		{"'''''", 0, -1},
		{"a'b", 1, -1},
		{"'a' 'b", 4, -1},
		{"'a\n", 0, -1},
		// Places that are none of the text.
		{"'a'", -1, -1},
		{"'a'", 3, -1},
		{"'a'", 4, -1},
		{"'a'", -3, -1},
		{"''", math.MaxInt, -1},
		{"''", math.MinInt, -1},
		{"''", 1 << 32, -1},
		{"''", -1 << 32, -1},
		{"", -1, -1},
		{"", 1, -1},
		{"", math.MaxInt, -1},
		{"", math.MinInt, -1},
	}
	for _, c := range cases {
		if got := quote.End(c.s, c.at); got != c.want {
			t.Errorf("End(%q, %d) is %d, not %d", c.s, c.at, got, c.want)
		}
	}
}

// end is the chapter's words on End by numbers of quotes: behind the first quote that makes their number even, if no quote follows.
func end(s string, at int) int {
	if at < 0 || at >= len(s) || s[at] != 39 {
		return -1
	}
	for to := at + 2; to <= len(s); to++ {
		if s[to-1] == 39 && strings.Count(s[at:to], "'")%2 == 0 && !strings.HasPrefix(s[to:], "'") {
			return to
		}
	}
	return -1
}

func isEndEverywhere(t *testing.T, s string) {
	t.Helper()
	for at := -2; at <= len(s)+2; at++ {
		if got, want := quote.End(s, at), end(s, at); got != want {
			t.Fatalf("End(%q, %d) is %d, not %d", s, at, got, want)
		}
	}
}

func TestEndOfAllShortTexts(t *testing.T) {
	for _, s := range texts("a' ", 8) {
		isEndEverywhere(t, s)
	}
	for _, s := range texts("'\n\\\xff", 6) {
		isEndEverywhere(t, s)
	}
}

func TestEndOfTextsWithoutAPlan(t *testing.T) {
	c := chance(3)
	for range 5000 {
		isEndEverywhere(t, c.text(50))
	}
}

func TestEndOfEachByte(t *testing.T) {
	for b := range 256 {
		one := string([]byte{byte(b)})
		for _, s := range []string{one, one + "a'", "'" + one + "'", "'" + one, "''" + one, "'a'" + one + "'"} {
			isEndEverywhere(t, s)
		}
	}
}

func TestEndOfWhatIsQuoted(t *testing.T) {
	c := chance(4)
	for range 5000 {
		s := c.text(40)
		q := quote.Quote(s)
		for _, behind := range []string{"", " ", "a", " '", "\n''"} {
			want := len(q)
			if quote.Plain(s) {
				want = -1
			}
			if got := quote.End(q+behind, 0); got != want {
				t.Fatalf("End(%q, 0) is %d, not %d", q+behind, got, want)
			}
			if got := quote.End("x y"+q+behind, 3); want >= 0 && got != want+3 {
				t.Fatalf("End(%q, 3) is %d, not %d", "x y"+q+behind, got, want+3)
			}
		}
	}
}

func TestEndOfGreatTexts(t *testing.T) {
	const many = 1 << 20
	pairs := strings.Repeat("''", many)
	for _, c := range []struct {
		s        string
		at, want int
	}{
		{pairs, 0, 2 * many},
		{pairs, 1, -1},
		{pairs + "'", 0, -1},
		{pairs + "'", 1, 2*many + 1},
		{"'" + strings.Repeat("a", many) + "' ", 0, many + 2},
		{"'" + strings.Repeat(" ", many), 0, -1},
	} {
		if got := quote.End(c.s, c.at); got != c.want {
			t.Errorf("End of %d bytes at %d is %d, not %d", len(c.s), c.at, got, c.want)
		}
	}
}
