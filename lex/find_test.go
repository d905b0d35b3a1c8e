package lex_test

import (
	"strings"
	"testing"

	"millwright/lex"
)

// P13.1, of Find

func TestFind(t *testing.T) {
	cases := []struct {
		s, signs string
		want     int
	}{
		{"'a:b' c: d", ":", 7},
		// Nothing to look in, or for.
		{"", "", -1},
		{"", ":", -1},
		{"a", "", -1},
		{" \t\n", " \t\n", -1},
		// Within a Plain.
		{":", ":", 0},
		{"a", "a", 0},
		{"abc", "c", 2},
		{"abc", "b", 1},
		{"a:b", ":", 1},
		{" a:b", ":", 2},
		{"\n\t a = b", "=", 5},
		{"a b c", "c", 4},
		{"a#b", "#", 1},
		{"a\\b", "\\", 1},
		{"a{b}", "}", 3},
		{"{", "{", 0},
		{"a\x00b", "\x00", 1},
		{"a\xffb", "\xff", 1},
		// At the end of the text.
		{"a:", ":", 1},
		{"a b:", ":", 3},
		{"$x:", ":", 2},
		{"'a':", ":", 3},
		{"${x}:", ":", 4},
		{"`{a}:", ":", 4},
		{"a: ", ":", 1},
		// No sign at all.
		{"abc", "d", -1},
		{"a b c", ":=", -1},
		{"a$x'b'", "c", -1},
		// Within each other kind of piece.
		{"':'", ":", -1},
		{"'a:b'", ":", -1},
		{"'it'':s'", ":", -1},
		{"':", ":", -1},
		{"$x", "x", -1},
		{"$abc", "b", -1},
		{"${x}", "x", -1},
		{"${x}", "{", -1},
		{"${x}", "}", -1},
		{"${x}", "$", -1},
		{"${y:a=b}", ":", -1},
		{"${y:a=b}", "=", -1},
		{"${y:a=b}", "a", -1},
		{"${y:a=b}", "b", -1},
		{"${y::=:}", ":", -1},
		{"`{:}", ":", -1},
		{"`{a = b}", "=", -1},
		{"`{a}", "{}a`", -1},
		{"''", "'", -1},
		// Behind one.
		{"':':", ":", 3},
		{"$x:x", "x", 3},
		{"$x:", ":", 2},
		{"${x:a=b}:", ":", 8},
		{"${x:a=b}=", "=", 8},
		{"`{:}:", ":", 4},
		{"':' :", ":", 4},
		{"${x}}", "}", 4},
		{"$x}", "}", 2},
		{"'a''b:':", ":", 7},
		// Ahead of one.
		{":':'", ":", 0},
		{"a:$x:", ":", 1},
		{"a:${x:a=b}", ":", 1},
		{"a:`{:}", ":", 1},
		// In several pieces.
		{"':'$x`{:}${y::=:}:", ":", 17},
		{"a':'b c:d", ":", 7},
		{"'=' a=b", "=", 5},
		{"a ${x:a=b} c=d : e", ":=", 12},
		// Several signs: the first of the text is told.
		{"a:b=c", ":=", 1},
		{"a:b=c", "=:", 1},
		{"a=b:c", ":=", 1},
		{"a=b:c", "=:", 1},
		{"a=b:c", ":", 3},
		{"a=b=c", "=", 1},
		{"a::b", ":", 1},
		{"abc", "cb", 1},
		{"abc", "abcabc", 0},
		{"abc", "xyzc", 2},
		// What no Plain has is found nowhere.
		{"a 'b' $c `{d}\t\n", " \t\n'$`", -1},
		{"a b", " b", 2},
		{"a'b'", "'", -1},
		{"$x$y", "$", -1},
		// Signs are bytes.
		{"a\u00e9", "\u00e9", 1},
		{"a\xa9", "\u00e9", 1},
		{"\u00e8a", "\u00e9", 0},
		{"\xfe\xff", "\xff", 1},
		{"\xfe", "\xff", -1},
		{"\ufffd", "\xff", -1},
		{"\xff", "\ufffd", -1},
		// Ahead of an error.
		{"a:'", ":", 1},
		{"a: $", ":", 1},
		{"a:$", ":", 1},
		{"a: ${", ":", 1},
		{"a: ${x:a}", ":", 1},
		{"a: `", ":", 1},
		{"a: `{:", ":", 1},
		{"a:$" + name13, ":", 1},
		{"a='b", "=", 1},
		// Behind it, and within.
		{"$:", ":", -1},
		{"$ :", ":", -1},
		{"a $-:", ":", -1},
		{"a $-:", "-", -1},
		{"$" + name13 + ":", ":", -1},
		{"$" + name13 + ":", "Z", -1},
		{"$" + name12 + ":", ":", 13},
		{"${:", ":", -1},
		{"${}:", ":", -1},
		{"${x :", ":", -1},
		{"${x:a}:", ":", -1},
		{"${x:a=b=c}:", ":", -1},
		{"${" + name13 + "}:", ":", -1},
		{"`:", ":", -1},
		{"`{:", ":", -1},
		{"`{a{b}:", ":", -1},
		{"`a:", "a", -1},
		{"'a:", ":", -1},
		{"'a :b", ":b", -1},
		{"'a'':", ":", -1},
		{"a 'b :", ":", -1},
		{"a' b: c", ":", -1},
	}
	for _, c := range cases {
		if got := lex.Find(c.s, c.signs); got != c.want {
			t.Errorf("Find(%q, %q) is %d, not %d", c.s, c.signs, got, c.want)
		}
	}
}

func TestFindOfEachByte(t *testing.T) {
	for b := range 256 {
		one := string([]byte{byte(b)})
		never := strings.Contains(" \t\n'$`", one)
		for _, c := range []struct {
			s    string
			want int
		}{
			{"--" + one, 2},
			{one + "--", 0},
			{"- " + one + " " + one, 2},
			{"''" + one, 2},
			{"`{}-" + one, 4},
		} {
			// Within the texts it may be one of theirs.
			want := c.want
			if never {
				want = -1
			} else if first := strings.IndexByte(c.s, '-'); one == "-" {
				want = first
			}
			if got := lex.Find(c.s, one); got != want {
				t.Errorf("Find(%q, %q) is %d, not %d", c.s, one, got, want)
			}
			if got := lex.Find(c.s, ""); got != -1 {
				t.Errorf("Find(%q) of no signs is %d", c.s, got)
			}
		}
	}
}

func TestFindOfEverySign(t *testing.T) {
	all := everyByte()
	for b := range 256 {
		one := string([]byte{byte(b)})
		want := 1
		if strings.Contains(" \t\n'$`", one) {
			want = -1
		}
		if got := lex.Find("\n"+one, all); got != want {
			t.Errorf("Find(%q) of every byte is %d, not %d", "\n"+one, got, want)
		}
		if got := lex.Find("\n"+one, strings.ReplaceAll(all, one, "")); got != -1 {
			t.Errorf("Find(%q) of every other byte is %d", "\n"+one, got)
		}
	}
}

func TestFindOfGreatTexts(t *testing.T) {
	const many = 1 << 20
	row := strings.Repeat("a", many)
	for _, c := range []struct {
		s, signs string
		want     int
	}{
		{row, "b", -1},
		{row + "b", "b", many},
		{row, strings.Repeat("b", many), -1},
		{row + "c", strings.Repeat("b", many) + "c", many},
		{strings.Repeat("':' ", many) + ":", ":", 4 * many},
		{strings.Repeat("$x", many) + ":", ":", 2 * many},
		{strings.Repeat(" ", many) + ":", ":", many},
		{"'" + strings.Repeat("':", many), ":", 2},
		{"'" + strings.Repeat(":", many), ":", -1},
		{"`{" + strings.Repeat(":", many) + "}:", ":", many + 3},
	} {
		if got := lex.Find(c.s, c.signs); got != c.want {
			t.Errorf("Find(%s, %s) is %d, not %d", shown(c.s), shown(c.signs), got, c.want)
		}
	}
}
