package lex_test

import (
	"slices"
	"strconv"
	"strings"
	"testing"

	"millwright/lex"
)

// texts is all texts of up to most bytes out of an alphabet.
func texts(alphabet string, most int) []string {
	all := []string{""}
	for from := 0; most > 0; most-- {
		to := len(all)
		for _, s := range all[from:to] {
			for i := range len(alphabet) {
				all = append(all, s+alphabet[i:i+1])
			}
		}
		from = to
	}
	return all
}

// chance is numbers without a plan, the same ones each time.
type chance uint64

// below is a number of 0 up to, but not, another one.
func (c *chance) below(n int) int {
	*c ^= *c << 13
	*c ^= *c >> 7
	*c ^= *c << 17
	return int(uint64(*c) >> 16 % uint64(n))
}

// of is a text of fewer than most bytes out of an alphabet.
func (c *chance) of(alphabet string, most int) string {
	out := make([]byte, c.below(most))
	for i := range out {
		out[i] = alphabet[c.below(len(alphabet))]
	}
	return string(out)
}

// text is a text of fewer than most bytes: of any bytes, or of one of some alphabets.
func (c *chance) text(most int) string {
	alphabets := []string{"a'", "a' ", "a$ ", "aaaa$$ '", "a${} ", "${a:=}", "a`{} \n", "ab'$`{}:=", "a_9Z$\t#\\", "aaaaaaaaaaaaaa$ ", "\x00\xff\xc3' $`{}", everyByte()}
	return c.of(alphabets[c.below(len(alphabets))], most)
}

// everyByte is all bytes, rising.
func everyByte() string {
	var out []byte
	for b := range 256 {
		out = append(out, byte(b))
	}
	return string(out)
}

// nameBytes is the bytes that a variable's name may have.
const nameBytes = "abcdefghijklmnopqrstuvwxyzABCDEFGHIJKLMNOPQRSTUVWXYZ0123456789_"

// The longest name that is one, and the shortest of right bytes that is none.
const (
	name12 = "abcdefghij_9"
	name13 = "abcdefghij_9Z"
)

func plain(s string) lex.Piece    { return lex.Piece{Kind: lex.Plain, Text: s} }
func quoted(s string) lex.Piece   { return lex.Piece{Kind: lex.Quoted, Text: s} }
func variable(s string) lex.Piece { return lex.Piece{Kind: lex.Var, Text: s} }
func back(s string) lex.Piece     { return lex.Piece{Kind: lex.Back, Text: s} }

func subst(s, from, to string) lex.Piece {
	return lex.Piece{Kind: lex.Subst, Text: s, From: from, To: to}
}

// word is a word of pieces.
func word(pieces ...lex.Piece) []lex.Piece { return pieces }

// same tells whether two rows of words are the same, by what they are told as.
func same(a, b [][]lex.Piece) bool { return whole(a) == whole(b) }

// whole is words as a text in which each of their parts can be told apart.
func whole(words [][]lex.Piece) string {
	out := []byte{'['}
	for _, w := range words {
		out = append(out, '(')
		for _, p := range w {
			out = strconv.AppendInt(out, int64(p.Kind), 10)
			for _, s := range []string{p.Text, p.From, p.To} {
				out = strconv.AppendInt(append(out, ' '), int64(len(s)), 10)
				out = append(append(out, ':'), s...)
			}
			out = append(out, ';')
		}
		out = append(out, ')')
	}
	return string(append(out, ']'))
}

// shown is a text as a message shows it: a great one just as far as one can read it.
func shown(s string) string {
	const most = 400
	if len(s) > most {
		return strconv.Quote(s[:most]) + ".. (" + strconv.Itoa(len(s)) + ")"
	}
	return strconv.Quote(s)
}

// told is words as a message shows them.
func told(words [][]lex.Piece) string { return shown(whole(words)) }

// P13.1, of the kinds

func TestKinds(t *testing.T) {
	if lex.Plain != 0 || lex.Quoted != 1 || lex.Var != 2 || lex.Subst != 3 || lex.Back != 4 {
		t.Errorf("the kinds are %d %d %d %d %d", lex.Plain, lex.Quoted, lex.Var, lex.Subst, lex.Back)
	}
}

// P13.1, of Name

func TestName(t *testing.T) {
	cases := []struct {
		s    string
		want bool
	}{
		{"", false},
		{"a", true},
		{"z", true},
		{"A", true},
		{"Z", true},
		{"0", true},
		{"9", true},
		{"_", true},
		{"a_1", true},
		{"A_1", true},
		{"1a", true},
		{"007", true},
		{"__", true},
		{"CFLAGS", true},
		{"aaaaaaaaaaa", true},
		{"aaaaaaaaaaaa", true},
		{"aaaaaaaaaaaaa", false},
		{name12, true},
		{name13, false},
		{"000000000000", true},
		{"0000000000000", false},
		{"____________", true},
		{"_____________", false},
		{strings.Repeat("a", 1<<20), false},
		{"a-b", false},
		{"a b", false},
		{" a", false},
		{"a ", false},
		{"a\n", false},
		{"a.b", false},
		{"$a", false},
		{"{a}", false},
		{"a\x00", false},
		{"\x00", false},
		{"\xff", false},
		{"aaaaaaaaaaa-", false},
		{"-aaaaaaaaaaa", false},
		{"aaaaaaaaaaaa-", false},
		// Letters and figures of other scripts are none.
		{"\u00e9", false},
		{"a\u00e9", false},
		{"\u0660", false},
		{"\uff41", false},
	}
	for _, c := range cases {
		if got := lex.Name(c.s); got != c.want {
			t.Errorf("Name(%s) is %v", shown(c.s), got)
		}
	}
}

func TestNameOfEachByte(t *testing.T) {
	for b := range 256 {
		one := string([]byte{byte(b)})
		want := strings.Contains(nameBytes, one)
		for _, s := range []string{one, one + "b", "a" + one, "a" + one + "b", one + one, "ab_" + one + "9Z", one + "aaaaaaaaaaa", "aaaaaaaaaaa" + one} {
			if got := lex.Name(s); got != want {
				t.Errorf("Name(%q) is %v", s, got)
			}
		}
		if s := "aaaaaaaaaaaa" + one; lex.Name(s) {
			t.Errorf("Name(%q) is true", s)
		}
	}
}

func TestNameOfTwoBytes(t *testing.T) {
	for a := range 256 {
		for b := range 256 {
			s := string([]byte{byte(a), byte(b)})
			if got, want := lex.Name(s), strings.Contains(nameBytes, s[:1]) && strings.Contains(nameBytes, s[1:]); got != want {
				t.Errorf("Name(%q) is %v", s, got)
			}
		}
	}
}

func TestNameOfEachLength(t *testing.T) {
	for n := range 40 {
		if got, want := lex.Name(strings.Repeat("x", n)), n >= 1 && n <= 12; got != want {
			t.Errorf("Name of %d bytes is %v", n, got)
		}
	}
}

// P13.1, of Text

func TestText(t *testing.T) {
	cases := []struct {
		w    []lex.Piece
		want string
	}{
		// None.
		{nil, ""},
		{word(), ""},
		// One of each kind.
		{word(plain("a")), "a"},
		{word(plain("a#\\=:{}b")), "a#\\=:{}b"},
		{word(quoted("b c")), "'b c'"},
		{word(variable("x")), "${x}"},
		{word(subst("y", "%.c", "%.o")), "${y:%.c=%.o}"},
		{word(back("echo a")), "`{echo a}"},
		// Empty ones.
		{word(plain("")), ""},
		{word(quoted("")), "''"},
		{word(variable("")), "${}"},
		{word(subst("", "", "")), "${:=}"},
		{word(subst("y", "", "")), "${y:=}"},
		{word(subst("y", "a", "")), "${y:a=}"},
		{word(subst("y", "", "b")), "${y:=b}"},
		{word(back("")), "`{}"},
		// Quotes.
		{word(quoted("'")), "''''"},
		{word(quoted("''")), "''''''"},
		{word(quoted("it's")), "'it''s'"},
		{word(quoted("'a'")), "'''a'''"},
		{word(quoted("a''b")), "'a''''b'"},
		{word(quoted("' '")), "''' '''"},
		{word(quoted("plain")), "'plain'"},
		{word(quoted("\n$x`{y}\t")), "'\n$x`{y}\t'"},
		{word(quoted("\xff'\x00")), "'\xff''\x00'"},
		// In a kind other than Quoted they are as they are.
		{word(plain("it's")), "it's"},
		{word(variable("it's")), "${it's}"},
		{word(subst("'", "'", "'")), "${':'='}"},
		{word(back("it's")), "`{it's}"},
		{word(back("a 'b c' $d\n")), "`{a 'b c' $d\n}"},
		// What a kind doesn't have is left out.
		{word(lex.Piece{Kind: lex.Plain, Text: "a", From: "b", To: "c"}), "a"},
		{word(lex.Piece{Kind: lex.Quoted, Text: "a", From: "b", To: "c"}), "'a'"},
		{word(lex.Piece{Kind: lex.Var, Text: "a", From: "b", To: "c"}), "${a}"},
		{word(lex.Piece{Kind: lex.Back, Text: "a", From: "b", To: "c"}), "`{a}"},
		// Several.
		{word(plain("a"), variable("x"), quoted("b c")), "a${x}'b c'"},
		{word(variable("x"), variable("y")), "${x}${y}"},
		{word(variable("x"), plain("y")), "${x}y"},
		{word(plain("a"), plain("b")), "ab"},
		{word(quoted("a"), quoted("b")), "'a''b'"},
		{word(back("a"), subst("b", "c", "d"), variable("e"), quoted("f"), plain("g")), "`{a}${b:c=d}${e}'f'g"},
		{word(plain("g"), quoted("f"), variable("e"), subst("b", "c", "d"), back("a")), "g'f'${e}${b:c=d}`{a}"},
	}
	for _, c := range cases {
		if got := lex.Text(c.w); got != c.want {
			t.Errorf("Text(%s) is %q, not %q", told([][]lex.Piece{c.w}), got, c.want)
		}
	}
}

// otherKinds is numbers that are none of the kinds.
var otherKinds = [...]int{-1, 5, 6, -5, 256, 1 << 40, -1 << 63, 1<<63 - 1}

func TestTextOfOtherKinds(t *testing.T) {
	for _, kind := range otherKinds {
		p := lex.Piece{Kind: kind, Text: "a", From: "b", To: "c"}
		for _, c := range []struct {
			w    []lex.Piece
			want string
		}{
			{word(p), ""},
			{word(p, p), ""},
			{word(plain("x"), p), "x"},
			{word(p, quoted("x")), "'x'"},
			{word(variable("x"), p, back("y")), "${x}`{y}"},
		} {
			if got := lex.Text(c.w); got != c.want {
				t.Errorf("Text of kind %d is %q, not %q", kind, got, c.want)
			}
		}
	}
}

func TestTextOfEachByte(t *testing.T) {
	for b := range 256 {
		one := string([]byte{byte(b)})
		twice := one
		if b == '\'' {
			twice = "''"
		}
		w := word(plain(one), quoted("x"+one), variable(one), subst(one, one+"y", "z"+one), back(one+one))
		want := one + "'x" + twice + "'${" + one + "}${" + one + ":" + one + "y=z" + one + "}`{" + one + one + "}"
		if got := lex.Text(w); got != want {
			t.Errorf("Text with byte %d is %q, not %q", b, got, want)
		}
	}
}

// P13.1, of Same

// unlike is rows of words of which no two are the same.
func unlike() [][][]lex.Piece {
	return [][][]lex.Piece{
		nil,
		{nil},
		{nil, nil},
		{word(plain("a"))},
		{word(plain("b"))},
		{word(plain("A"))},
		{word(plain(""))},
		{word(plain("a\x00"))},
		{word(quoted("a"))},
		{word(variable("a"))},
		{word(subst("a", "", ""))},
		{word(back("a"))},
		{word(lex.Piece{Kind: 5, Text: "a"})},
		{word(lex.Piece{Kind: -1, Text: "a"})},
		{word(subst("a", "b", ""))},
		{word(subst("a", "", "b"))},
		{word(subst("a", "b", "b"))},
		{word(subst("a", "b", "c"))},
		{word(subst("a", "c", "b"))},
		{word(subst("x", "b", "c"))},
		{word(lex.Piece{Kind: lex.Plain, Text: "a", From: "b"})},
		{word(lex.Piece{Kind: lex.Plain, Text: "a", To: "b"})},
		{word(plain("ab"))},
		{word(plain("a"), plain("b"))},
		{word(plain("a")), word(plain("b"))},
		{word(plain("b")), word(plain("a"))},
		{word(plain("b"), plain("a"))},
		{word(plain("a"), plain(""))},
		{word(plain("a")), nil},
		{nil, word(plain("a"))},
		{word(plain("a"), quoted("b"), variable("c"))},
		{word(plain("a"), quoted("b")), word(variable("c"))},
		{word(plain("a")), word(quoted("b"), variable("c"))},
		{word(plain("a")), word(quoted("b")), word(variable("c"))},
		{word(plain("a"), quoted("b"), variable("c")), nil},
		{word(plain("a"), quoted("b"), variable("d"))},
		{word(plain("a")), word(quoted("b")), word(variable("d"))},
		{word(plain("a")), word(quoted("b"))},
		{word(plain("a")), word(plain("a"))},
		{word(plain("a")), word(plain("a")), word(plain("a"))},
		{word(plain("a"), plain("a"))},
	}
}

// copied is the same words in other memory.
func copied(words [][]lex.Piece) [][]lex.Piece {
	var out [][]lex.Piece
	for _, w := range words {
		out = append(out, slices.Clone(w))
	}
	return out
}

func TestSame(t *testing.T) {
	all := unlike()
	for i, a := range all {
		for k, b := range all {
			if got := lex.Same(a, copied(b)); got != (i == k) {
				t.Errorf("Same(%s, %s) is %v", told(a), told(b), got)
			}
		}
		if !lex.Same(a, a) {
			t.Errorf("Same(%s) of itself is false", told(a))
		}
	}
}

func TestSameOfNilAndEmpty(t *testing.T) {
	a := word(plain("a"))
	for _, pair := range [][2][][]lex.Piece{
		{nil, {}},
		{{nil}, {{}}},
		{{nil, {}}, {{}, nil}},
		{{a, nil}, {a, {}}},
		{{nil, a}, {{}, a}},
	} {
		if !lex.Same(pair[0], pair[1]) || !lex.Same(pair[1], pair[0]) {
			t.Errorf("Same(%s, %s) is false", told(pair[0]), told(pair[1]))
		}
	}
	// A word without pieces is a word all the same.
	for _, pair := range [][2][][]lex.Piece{
		{nil, {nil}},
		{{}, {{}}},
		{nil, {{}}},
		{{nil}, {{}, {}}},
		{{a}, {a, {}}},
		{{a}, {{}, a}},
	} {
		if lex.Same(pair[0], pair[1]) || lex.Same(pair[1], pair[0]) {
			t.Errorf("Same(%s, %s) is true", told(pair[0]), told(pair[1]))
		}
	}
}

// P13.1, of Literal

func TestLiteral(t *testing.T) {
	cases := []struct {
		w    []lex.Piece
		want string
	}{
		{nil, ""},
		{word(), ""},
		{word(plain("a")), "a"},
		{word(plain("")), ""},
		{word(quoted("")), ""},
		{word(quoted("a")), "a"},
		{word(quoted("it's")), "it's"},
		{word(quoted("$x `{y}\n")), "$x `{y}\n"},
		{word(plain("a"), quoted("b c"), plain("d")), "ab cd"},
		{word(quoted("b"), plain("a")), "ba"},
		{word(plain("a"), plain("b"), plain("c")), "abc"},
		{word(quoted("a"), quoted("b"), quoted("c")), "abc"},
		{word(quoted("'"), plain("'"), quoted("''")), "''''"},
		{word(quoted(""), plain("\xff"), quoted("\x00")), "\xff\x00"},
		{word(lex.Piece{Kind: lex.Plain, Text: "a", From: "b", To: "c"}, lex.Piece{Kind: lex.Quoted, Text: "d", From: "e", To: "f"}), "ad"},
	}
	for _, c := range cases {
		if got, is := lex.Literal(c.w); got != c.want || !is {
			t.Errorf("Literal(%s) is %q, %v, not %q", told([][]lex.Piece{c.w}), got, is, c.want)
		}
	}
}

func TestLiteralOfOtherKinds(t *testing.T) {
	others := []lex.Piece{variable("x"), subst("x", "a", "b"), back("x"), variable(""), subst("", "", ""), back("")}
	for _, kind := range otherKinds {
		others = append(others, lex.Piece{Kind: kind}, lex.Piece{Kind: kind, Text: "x"})
	}
	for _, other := range others {
		for n := range 5 {
			for at := range n + 1 {
				w := word(plain("a"), quoted("b c"), plain("d"), quoted(""))[:n]
				w = slices.Insert(w, at, other)
				if got, is := lex.Literal(w); got != "" || is {
					t.Errorf("Literal(%s) is %q, %v", told([][]lex.Piece{w}), got, is)
				}
			}
		}
		if got, is := lex.Literal(word(other, other)); got != "" || is {
			t.Errorf("Literal of twice %v is %q, %v", other, got, is)
		}
	}
}
