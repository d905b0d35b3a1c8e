package lines_test

import (
	"slices"
	"strconv"
	"strings"
	"testing"

	"millwright/api"
	"millwright/lines"
)

// texts is all texts of up to most bytes out of an alphabet.
func texts(alphabet string, most int) []string {
	all := []string{""}
	for from := 0; most > 0; most-- {
		to := len(all)
		for _, s := range all[from:to] {
			for i := range len(alphabet) {
				all = append(all, s+alphabet[i:i+1])
			}
		}
		from = to
	}
	return all
}

// chance is numbers without a plan, the same ones each time.
type chance uint64

// below is a number of 0 up to, but not, another one.
func (c *chance) below(n int) int {
	*c ^= *c << 13
	*c ^= *c >> 7
	*c ^= *c << 17
	return int(uint64(*c) >> 16 % uint64(n))
}

// text is a text of fewer than most bytes: of any bytes, or of one of some alphabets.
func (c *chance) text(most int) string {
	alphabets := []string{"ab\n", "a \t\n", "a\\\n", "aaaaaa''#\n", "aaaa b\t\\\\\n\n#''", "a\\\n \t#", "\n", "\x00\xff\xc3\r \n'\\"}
	out := make([]byte, c.below(most))
	pick := c.below(len(alphabets) + 1)
	for i := range out {
		if pick == len(alphabets) {
			out[i] = byte(c.below(256))
		} else {
			out[i] = alphabets[pick][c.below(len(alphabets[pick]))]
		}
	}
	return string(out)
}

// logical is a logical line.
func logical(number int, text string) lines.Line {
	return lines.Line{Text: text, Number: number}
}

// recipe is a recipe line.
func recipe(number int, text string) lines.Line {
	return lines.Line{Text: text, Number: number, Recipe: true}
}

// same tells whether two lists are the same; one without elements and nil are.
func same(a, b []lines.Line) bool {
	return len(a) == len(b) && (len(a) == 0 || slices.Equal(a, b))
}

// shown is a text as a message shows it: a great one just as far as one can read it.
func shown(s string) string {
	const most = 400
	if len(s) > most {
		return strconv.Quote(s[:most]) + ".. (" + strconv.Itoa(len(s)) + ")"
	}
	return strconv.Quote(s)
}

// list is lines as a message shows them.
func list(all []lines.Line) string {
	const most = 40
	var out []string
	for _, l := range all[:min(len(all), most)] {
		kind := ":"
		if l.Recipe {
			kind = "!"
		}
		out = append(out, strconv.Itoa(l.Number)+kind+shown(l.Text))
	}
	return strconv.Itoa(len(all)) + " [" + strings.Join(out, " ") + "]"
}

// pad is a row of n bytes without a meaning.
func pad(n int) string { return strings.Repeat("a", n) }

// P12.1, of Count

func TestCount(t *testing.T) {
	cases := []struct {
		text string
		want int
	}{
		{"", 0},
		{"a", 1},
		{"a\n", 1},
		{"\n", 1},
		{"\n\n", 2},
		{"\n\n\n\n\n", 5},
		{"a\nb", 2},
		{"a\nb\n", 2},
		{"a\n\nb", 3},
		{"a\n\n\nb\n", 4},
		{"\na", 2},
		{"\na\n", 2},
		{" ", 1},
		{"\t", 1},
		{"\n ", 2},
		{"\n\t\n", 2},
		{"\tx\n", 1},
		{"\tx\n\ty", 2},
		{"\r", 1},
		{"\r\n", 1},
		{"a\r", 1},
		{"a\rb", 1},
		{"\v\f\x00", 1},
		{"\n\x00", 2},
		// What goes on is more than one physical line.
		{"\\", 1},
		{"\\\n", 1},
		{"a\\\n", 1},
		{"a\\\nb", 2},
		{"a\\\nb\\\nc\n", 3},
		{"a\\\n\n", 2},
		{"\\\n\\\n\\\n", 3},
		// Neither quotes nor sharps hide a line feed.
		{"#", 1},
		{"# c\nd", 2},
		{"# c\\\nd\n", 2},
		{"'\n'", 2},
		{"'a\nb\n", 2},
		{"a 'b' # c\n\td\n", 2},
		// What Split refuses is counted all the same.
		{"a\nb 'c\n", 2},
		{pad(api.MaxText + 1), 1},
		{pad(api.MaxText) + "\n", 1},
		{strings.Repeat("\n", api.MaxText+1), api.MaxText + 1},
		{pad(api.MaxLine+1) + "\n\t" + pad(api.MaxLine+1), 2},
	}
	for _, c := range cases {
		if got := lines.Count(c.text); got != c.want {
			t.Errorf("Count(%s) is %d, not %d", shown(c.text), got, c.want)
		}
	}
}

// counted is how many physical lines there are, by a walk.
func counted(text string) int {
	n := 0
	open := false
	for i := range len(text) {
		if !open {
			n++
		}
		open = text[i] != 10
	}
	return n
}

func TestCountOfAllShortTexts(t *testing.T) {
	for _, s := range texts("a\n\\", 8) {
		if got, want := lines.Count(s), counted(s); got != want {
			t.Fatalf("Count(%q) is %d, not %d", s, got, want)
		}
	}
	for _, s := range texts("\n\r '#", 5) {
		if got, want := lines.Count(s), counted(s); got != want {
			t.Fatalf("Count(%q) is %d, not %d", s, got, want)
		}
	}
}

func TestCountOfTextsWithoutAPlan(t *testing.T) {
	c := chance(1)
	for range 5000 {
		s := c.text(200)
		if got, want := lines.Count(s), counted(s); got != want {
			t.Fatalf("Count(%q) is %d, not %d", s, got, want)
		}
	}
}

func TestCountOfEachByte(t *testing.T) {
	for b := range 256 {
		one := string([]byte{byte(b)})
		for _, s := range []string{one, "a" + one, one + "a", one + "\n", "\n" + one, one + one, "a" + one + "b\n" + one} {
			if got, want := lines.Count(s), counted(s); got != want {
				t.Fatalf("Count(%q) is %d, not %d", s, got, want)
			}
		}
	}
}

func TestCountOfGreatTexts(t *testing.T) {
	const many = 1 << 22
	for _, c := range []struct {
		text string
		want int
	}{
		{strings.Repeat("\n", many), many},
		{strings.Repeat("\n", many) + "a", many + 1},
		{strings.Repeat("a\n", many), many},
		{pad(many), 1},
		{pad(many) + "\n", 1},
	} {
		if got := lines.Count(c.text); got != c.want {
			t.Errorf("Count of %d bytes is %d, not %d", len(c.text), got, c.want)
		}
	}
}

// P12.1, of Comment

func TestComment(t *testing.T) {
	cases := []struct {
		s    string
		want int
	}{
		// None.
		{"", -1},
		{"a", -1},
		{"a: b c", -1},
		{" \t\n", -1},
		{"\\", -1},
		{"$`\"!%&*:=<;|", -1},
		// One.
		{"#", 0},
		{"# a", 0},
		{"a#", 1},
		{"a # b", 2},
		{" #", 1},
		{"\t\t#", 2},
		{"a\n#", 2},
		{"\x00\xff#", 2},
		// Several: it is the first.
		{"##", 0},
		{"a#b#c", 1},
		{"a##", 1},
		{"a # b # c", 2},
		// A backslash takes nothing from it.
		{"\\#", 1},
		{"a\\#b", 2},
		{"\\\\#", 2},
		{"\\'#'", -1},
		{"\\'#'#", 4},
		// Other quotes are none.
		{"\"#\"", 1},
		{"`#`", 1},
		// Within quoted parts.
		{"'#'", -1},
		{"'a#b'", -1},
		{"a'#'b", -1},
		{"'#''#'", -1},
		{"'#' '#'", -1},
		{"'a''#'", -1},
		{"'''#'''", -1},
		{"'\n#\n'", -1},
		{"'\\#'", -1},
		{"'\\'#", 3},
		{"''''", -1},
		// Behind them.
		{"'#' #", 4},
		{"'#'#", 3},
		{"''#", 2},
		{"''''#", 4},
		{"''''#'", 4},
		{"'''#''#'#", 8},
		{"'a''b'#", 6},
		{"'a' 'b' #", 8},
		{"'#' a '#' # '#'", 10},
		{"a '#'#'#", 5},
		{"'\n'#", 3},
		// Ahead of them.
		{"# '#'", 0},
		{"a#'", 1},
		{"a#'#'", 1},
		{"#'", 0},
		// Behind a quote that has no end.
		{"'", -1},
		{"'#", -1},
		{"a '#", -1},
		{"a ' # b", -1},
		{"'''#", -1},
		{"'#''", -1},
		{"'#''#", -1},
		{"'''''#", -1},
		{"'a' '#", -1},
		{"'a'#'#", 3},
		{"''#'", 2},
		{"'\n#", -1},
	}
	for _, c := range cases {
		if got := lines.Comment(c.s); got != c.want {
			t.Errorf("Comment(%q) is %d, not %d", c.s, got, c.want)
		}
	}
}

// comment is the chapter's words on Comment by numbers of quotes: outside is what has an even number of them ahead.
func comment(s string) int {
	for i := range len(s) {
		if s[i] == 35 && strings.Count(s[:i], "'")%2 == 0 {
			return i
		}
	}
	return -1
}

func TestCommentOfAllShortTexts(t *testing.T) {
	for _, s := range texts("a'#", 8) {
		if got, want := lines.Comment(s), comment(s); got != want {
			t.Fatalf("Comment(%q) is %d, not %d", s, got, want)
		}
	}
	for _, s := range texts("'#\\\n ", 6) {
		if got, want := lines.Comment(s), comment(s); got != want {
			t.Fatalf("Comment(%q) is %d, not %d", s, got, want)
		}
	}
}

func TestCommentOfTextsWithoutAPlan(t *testing.T) {
	c := chance(2)
	for range 5000 {
		s := c.text(60)
		if got, want := lines.Comment(s), comment(s); got != want {
			t.Fatalf("Comment(%q) is %d, not %d", s, got, want)
		}
	}
}

func TestCommentOfEachByte(t *testing.T) {
	for b := range 256 {
		one := string([]byte{byte(b)})
		for _, s := range []string{one, one + "#", "a" + one + "#b", "'" + one + "'#", "'" + one + "#", "''" + one + "#", one + "'#'#"} {
			if got, want := lines.Comment(s), comment(s); got != want {
				t.Fatalf("Comment(%q) is %d, not %d", s, got, want)
			}
		}
	}
}

func TestCommentOfGreatTexts(t *testing.T) {
	const many = 1 << 20
	pairs := strings.Repeat("''", many)
	for _, c := range []struct {
		s    string
		want int
	}{
		{pad(many), -1},
		{pad(many) + "#", many},
		{pairs + "#", 2 * many},
		{pairs + "'#", -1},
		{strings.Repeat("'#' ", many) + "#", 4 * many},
		{strings.Repeat("'#' ", many) + "'#", -1},
		{strings.Repeat("#", many), 0},
		{"'" + strings.Repeat("#", many), -1},
		{"'" + strings.Repeat("#", many) + "'#", many + 2},
	} {
		if got := lines.Comment(c.s); got != c.want {
			t.Errorf("Comment of %d bytes is %d, not %d", len(c.s), got, c.want)
		}
	}
}
