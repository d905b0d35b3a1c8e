package quote_test

import (
	"slices"
	"strconv"
	"strings"
	"testing"

	"millwright/quote"
)

// texts is all texts of up to most bytes out of an alphabet.
func texts(alphabet string, most int) []string {
	all := []string{""}
	for from := 0; most > 0; most-- {
		to := len(all)
		for _, s := range all[from:to] {
			for i := range len(alphabet) {
				all = append(all, s+alphabet[i:i+1])
			}
		}
		from = to
	}
	return all
}

// chance is numbers without a plan, the same ones each time.
type chance uint64

// below is a number of 0 up to, but not, another one.
func (c *chance) below(n int) int {
	*c ^= *c << 13
	*c ^= *c >> 7
	*c ^= *c << 17
	return int(uint64(*c) >> 16 % uint64(n))
}

// text is a text of fewer than most bytes: of any bytes, or of one of some alphabets.
func (c *chance) text(most int) string {
	alphabets := []string{"a'", "a' ", "' \t\n", "ab' \\#$", "'", "\x00\xff\xc3' "}
	out := make([]byte, c.below(most))
	pick := c.below(len(alphabets) + 1)
	for i := range out {
		if pick == len(alphabets) {
			out[i] = byte(c.below(256))
		} else {
			out[i] = alphabets[pick][c.below(len(alphabets[pick]))]
		}
	}
	return string(out)
}

// same tells whether two lists are the same; one without elements and nil are.
func same(a, b []string) bool {
	return len(a) == len(b) && (len(a) == 0 || slices.Equal(a, b))
}

// told is texts as a message shows them: great ones just as far as one can read them.
func told(list ...string) string {
	const most = 400
	var out []string
	for _, s := range list[:min(len(list), most)] {
		out = append(out, strconv.Quote(s[:min(len(s), most)]))
	}
	return strconv.Itoa(len(list)) + " [" + strings.Join(out, " ") + "]"
}

// everyByte is all bytes, rising.
func everyByte() string {
	var out []byte
	for b := range 256 {
		out = append(out, byte(b))
	}
	return string(out)
}

// special is the bytes that make a text need quotes, by their numbers: the blanks, the quote, and the signs that the chapter names.
func special() []byte {
	return []byte{9, 10, 32, 39, 35, 36, 96, 58, 61, 60, 92, 59, 38, 124, 40, 41, 123, 125, 91, 93, 42, 63, 94, 126}
}

// P11.1

func TestTheExample(t *testing.T) {
	isSplit(t, "'it''s' here", "it's", "here")
}

func TestBlankOfEachByte(t *testing.T) {
	for b := range 256 {
		if want := b == 32 || b == 9 || b == 10; quote.Blank(byte(b)) != want {
			t.Errorf("Blank(%d) is %v", b, !want)
		}
	}
}

func TestPlainOfEachByte(t *testing.T) {
	for b := range 256 {
		one := string([]byte{byte(b)})
		want := !slices.Contains(special(), byte(b))
		for _, s := range []string{one, one + "ab", "a" + one + "b", "ab" + one, one + one, "\xff" + one, one + "\x80"} {
			if quote.Plain(s) != want {
				t.Errorf("Plain(%q) is %v", s, !want)
			}
		}
	}
}

func TestPlainOfTwoBytes(t *testing.T) {
	for a := range 256 {
		for b := range 256 {
			s := string([]byte{byte(a), byte(b)})
			want := !slices.Contains(special(), byte(a)) && !slices.Contains(special(), byte(b))
			if quote.Plain(s) != want {
				t.Errorf("Plain(%q) is %v", s, !want)
			}
		}
	}
}

func TestPlain(t *testing.T) {
	long := strings.Repeat("x", 5000)
	cases := []struct {
		s    string
		want bool
	}{
		{"", false},
		{"a", true},
		{"a.b", true},
		{"a/b-c_d+e,f", true},
		{"%.o", true},
		{"!\"%+,-./0123456789>@ABCXYZ_abcxyz", true},
		{"\x00\x01\x08\x0b\x0c\x0d\x1f\x7f", true},
		{"\u00a0\u0085\u2028", true},
		{"\xff\xfe\x80", true},
		{"caf\u00e9", true},
		{"a b", false},
		{"it's", false},
		{"''", false},
		{"$x", false},
		{"a\n", false},
		{"\ta", false},
		{"a\\", false},
		{"\u00e9*", false},
		{long, true},
		{" " + long, false},
		{long[:2500] + "?" + long[2500:], false},
		{long + "~", false},
	}
	for _, c := range cases {
		if got := quote.Plain(c.s); got != c.want {
			t.Errorf("Plain(%q) is %v", c.s, got)
		}
	}
}

func TestQuote(t *testing.T) {
	cases := []struct{ s, want string }{
		{"", "''"},
		{"a", "a"},
		{"a.b", "a.b"},
		{"a/%.o", "a/%.o"},
		{"\xff", "\xff"},
		{"\r", "\r"},
		{" ", "' '"},
		{"\t", "'\t'"},
		{"\n", "'\n'"},
		{"a b", "'a b'"},
		{" a", "' a'"},
		{"a ", "'a '"},
		{"a\nb\tc", "'a\nb\tc'"},
		{"'", "''''"},
		{"''", "''''''"},
		{"'''", "''''''''"},
		{"it's", "'it''s'"},
		{"'a", "'''a'"},
		{"a'", "'a'''"},
		{"'a'", "'''a'''"},
		{"a''b", "'a''''b'"},
		{"a'''b", "'a''''''b'"},
		{"a'b'c", "'a''b''c'"},
		{"' '", "''' '''"},
		{"a:b", "'a:b'"},
		{"$x", "'$x'"},
		{"a\\", "'a\\'"},
		{"\xff ", "'\xff '"},
		{"\u00e9'", "'\u00e9'''"},
	}
	for _, c := range cases {
		if got := quote.Quote(c.s); got != c.want {
			t.Errorf("Quote(%q) is %q", c.s, got)
		}
	}
}

// quoted is the chapter's words on Quote, byte by byte.
func quoted(s string) string {
	plain := s != ""
	out := []byte{39}
	for i := range len(s) {
		plain = plain && !slices.Contains(special(), s[i])
		if s[i] == 39 {
			out = append(out, 39)
		}
		out = append(out, s[i])
	}
	if plain {
		return s
	}
	return string(append(out, 39))
}

func TestQuoteOfEachByte(t *testing.T) {
	for b := range 256 {
		one := string([]byte{byte(b)})
		for _, s := range []string{one, one + "ab", "a" + one + "b", "ab" + one, one + " ", "'" + one, one + one + one} {
			if got, want := quote.Quote(s), quoted(s); got != want {
				t.Errorf("Quote(%q) is %q", s, got)
			}
		}
	}
	if got, want := quote.Quote(everyByte()), quoted(everyByte()); got != want {
		t.Errorf("Quote of every byte is %q", got)
	}
}

func TestQuoteOfAllShortTexts(t *testing.T) {
	for _, s := range texts("a' .$\xff", 5) {
		if got, want := quote.Quote(s), quoted(s); got != want {
			t.Fatalf("Quote(%q) is %q", s, got)
		}
	}
}

func TestJoin(t *testing.T) {
	cases := []struct {
		list []string
		want string
	}{
		{nil, ""},
		{[]string{}, ""},
		{[]string{""}, "''"},
		{[]string{"a"}, "a"},
		{[]string{"a b"}, "'a b'"},
		{[]string{"'"}, "''''"},
		{[]string{"x", ""}, "x ''"},
		{[]string{"", "x"}, "'' x"},
		{[]string{"", ""}, "'' ''"},
		{[]string{"", "", ""}, "'' '' ''"},
		{[]string{"a", "b", "c"}, "a b c"},
		{[]string{"a", "a", "a"}, "a a a"},
		{[]string{"c", "b", "a"}, "c b a"},
		{[]string{" ", "\t", "\n"}, "' ' '\t' '\n'"},
		{[]string{"it's", "here"}, "'it''s' here"},
		{[]string{"a", "", "b c", "'", "\xff"}, "a '' 'b c' '''' \xff"},
	}
	for _, c := range cases {
		if got := quote.Join(c.list); got != c.want {
			t.Errorf("Join(%q) is %q", c.list, got)
		}
	}
}

func TestNoWordIsLostByJoin(t *testing.T) {
	list := texts("a' ", 4)
	want := quoted(list[0])
	for _, s := range list[1:] {
		want += " " + quoted(s)
	}
	if got := quote.Join(list); got != want {
		t.Errorf("Join of %d texts has %d bytes, not %d", len(list), len(got), len(want))
	}
}

func TestFields(t *testing.T) {
	cases := []struct {
		s    string
		want []string
	}{
		{"", nil},
		{" ", nil},
		{"\t", nil},
		{"\n", nil},
		{" \t\n \n\t", nil},
		{"a", []string{"a"}},
		{" a", []string{"a"}},
		{"a ", []string{"a"}},
		{"\ta\n", []string{"a"}},
		{"a b", []string{"a", "b"}},
		{"a\tb", []string{"a", "b"}},
		{"a\nb", []string{"a", "b"}},
		{" a  'b ", []string{"a", "'b"}},
		{"\n\n ab \t\tc\n \nd \n", []string{"ab", "c", "d"}},
		{"b a b", []string{"b", "a", "b"}},
		{"'", []string{"'"}},
		{"''", []string{"''"}},
		{"'a b'", []string{"'a", "b'"}},
		{"' '", []string{"'", "'"}},
		{"it''s 'x", []string{"it''s", "'x"}},
		{"a\\ b", []string{"a\\", "b"}},
		{"a\rb\vc\fd", []string{"a\rb\vc\fd"}},
		{"a\u00a0b\u0085c", []string{"a\u00a0b\u0085c"}},
		{"\xa0 \x85 \xff", []string{"\xa0", "\x85", "\xff"}},
		{"\x00 \x00", []string{"\x00", "\x00"}},
	}
	for _, c := range cases {
		if got := quote.Fields(c.s); !same(got, c.want) {
			t.Errorf("Fields(%q) is %q", c.s, got)
		}
	}
}

// fields is the chapter's words on Fields: a text is cut at each blank, and what is empty is left out.
func fields(s string) []string {
	var out []string
	for _, part := range strings.Split(strings.ReplaceAll(strings.ReplaceAll(s, "\t", " "), "\n", " "), " ") {
		if part != "" {
			out = append(out, part)
		}
	}
	return out
}

func TestFieldsOfEachByte(t *testing.T) {
	for b := range 256 {
		one := string([]byte{byte(b)})
		for _, s := range []string{one, one + "a", "a" + one, "a" + one + "b", "a " + one + " b", one + one} {
			if got := quote.Fields(s); !same(got, fields(s)) {
				t.Errorf("Fields(%q) is %q", s, got)
			}
		}
	}
}

func TestFieldsOfAllShortTexts(t *testing.T) {
	for _, s := range texts("a' \t\n", 6) {
		if got := quote.Fields(s); !same(got, fields(s)) {
			t.Fatalf("Fields(%q) is %q", s, got)
		}
	}
}

func TestFieldsOfTextsWithoutAPlan(t *testing.T) {
	c := chance(1)
	for range 20000 {
		s := c.text(60)
		if got := quote.Fields(s); !same(got, fields(s)) {
			t.Fatalf("Fields(%q) is %q", s, got)
		}
	}
}

// Rules for every call

func TestNoCallChangesItsList(t *testing.T) {
	for _, list := range [][]string{nil, {"a"}, {""}, {"b c", "a", "it's", "", "a"}, {"'", "''", " "}} {
		given := append(slices.Clone(list), "behind", "it")
		all := slices.Clone(given)
		quote.Join(given[:len(list)])
		if !slices.Equal(given, all) {
			t.Errorf("Join(%q) changed its list, or the room behind it: %q", list, given)
		}
	}
}

func TestAnswersAreTheCallers(t *testing.T) {
	split := func(s string) []string {
		list, _ := quote.Split(s)
		return list
	}
	for _, call := range []func(string) []string{split, quote.Fields} {
		for _, s := range []string{"a", "a bc d", "a b c d e f g h i"} {
			first, second, want := call(s), call(s), fields(s)
			for i := range first[:cap(first)] {
				first[:cap(first)][i] = "written over"
			}
			if !same(second, want) || !same(call(s), want) {
				t.Errorf("answers of %q share their room, or aren't the same each time: %q", s, second)
			}
		}
	}
}

func TestSameAnswersEachTime(t *testing.T) {
	c := chance(2)
	for range 2000 {
		s, at := c.text(30), c.below(30)
		one, oneErr := quote.Split(s)
		other, otherErr := quote.Split(s)
		if !same(one, other) || (oneErr == nil) != (otherErr == nil) {
			t.Fatalf("Split(%q) is %q, then %q", s, one, other)
		}
		if quote.Plain(s) != quote.Plain(s) || quote.Quote(s) != quote.Quote(s) || quote.End(s, at) != quote.End(s, at) ||
			!same(quote.Fields(s), quote.Fields(s)) || quote.Join(one) != quote.Join(one) {
			t.Fatalf("answers of %q aren't the same each time", s)
		}
	}
}
