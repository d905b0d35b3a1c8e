package lex_test

import (
	"strings"
	"testing"

	"millwright/api"
	"millwright/lex"
)

// blanks is what may stand between words.
var blanks = [...]string{" ", "\t", "\n", "  ", " \n\t"}

// comesBack tells by a test that the texts of a text's words, with blanks between, have the same words, if it has words at all.
func comesBack(t *testing.T, s string) {
	t.Helper()
	words, err := lex.Words(s)
	if err != nil {
		return
	}
	var list []string
	for _, w := range words {
		list = append(list, lex.Text(w))
	}
	for _, b := range blanks {
		for _, joined := range []string{strings.Join(list, b), b + strings.Join(list, b) + b} {
			got, err := lex.Words(joined)
			if err != nil || !lex.Same(got, words) || !same(got, words) {
				t.Fatalf("the words of %s are %s; those of their texts, %s, are %s (%v)", shown(s), told(words), shown(joined), told(got), err)
			}
		}
	}
	for i, w := range words {
		if got, err := lex.Words(list[i]); err != nil || !same(got, [][]lex.Piece{w}) {
			t.Fatalf("the word %s of %s is told as %s, which is %s (%v)", told([][]lex.Piece{w}), shown(s), shown(list[i]), told(got), err)
		}
	}
}

// P13.2

func TestWordsComeBack(t *testing.T) {
	list, text := pieces()
	for i := range list {
		comesBack(t, text[i])
		for k := range list {
			for _, between := range []string{"", " ", "a", "0", "''", "\n"} {
				comesBack(t, text[i]+between+text[k])
			}
			for j := range list {
				comesBack(t, text[i]+text[k]+text[j])
				comesBack(t, text[i]+" "+text[k]+text[j])
			}
		}
	}
	for _, s := range []string{
		"",
		" \t\n",
		"a$x'b c' d",
		"${x}y $x'y' ${x}'' ${x}0",
		"'' '''' 'it''s' ''''''",
		"' ' '\t' '\n' '\n \n'",
		"`{} `{ } `{\n} `{'} `{$} `{`}",
		"${x:=} ${x:a=} ${x:=b} ${x:::=::}",
		"#a \\ \\'b' {} }{ : = :: ==",
		"$" + name12 + " ${" + name12 + "}" + name13,
		"\x00 \xff \r\v\f",
	} {
		comesBack(t, s)
	}
}

func TestAllShortTextsComeBack(t *testing.T) {
	for _, c := range []struct {
		alphabet string
		most     int
	}{
		{"a' ", 8},
		{"a${} ", 6},
		{"`{} '", 6},
		{"a'\n$", 6},
		{"a '$`{}:=", 5},
	} {
		for _, s := range texts(c.alphabet, c.most) {
			comesBack(t, s)
		}
	}
	for _, s := range texts("a:= }", 6) {
		comesBack(t, "${x:"+s+"=}")
		comesBack(t, "${x:="+s+"}")
	}
}

func TestTextsOfEachByteComeBack(t *testing.T) {
	for b := range 256 {
		one := string([]byte{byte(b)})
		for _, s := range []string{one, one + one, "a" + one + "b", "'" + one + "'", "'a'" + one, "$x" + one + "y", "${x}" + one, "${x:" + one + "=b}", "${x:a=" + one + "}", "`{" + one + "}", "`{a}" + one, one + "'a'"} {
			comesBack(t, s)
		}
	}
	comesBack(t, "'"+everyByte()+"''")
	comesBack(t, "`{ \t\n'$`#\\:=}")
}

func TestTextsWithoutAPlanComeBack(t *testing.T) {
	c := chance(3)
	for range 40000 {
		comesBack(t, c.text(30))
		comesBack(t, c.shapes())
	}
	for range 100 {
		comesBack(t, c.text(api.MaxText))
	}
}

// made is a word of pieces as one that is read may have: none goes on with what stands behind it.
func (c *chance) made() []lex.Piece {
	var w []lex.Piece
	for range 1 + c.below(6) {
		p := c.piece()
		if last := len(w) - 1; last >= 0 && p.Kind == w[last].Kind && p.Kind <= lex.Quoted {
			continue
		}
		w = append(w, p)
	}
	return w
}

// piece is a piece as one that is read may be.
func (c *chance) piece() lex.Piece {
	without := func(bytes string) string {
		all := everyByte()
		for i := range len(bytes) {
			all = strings.ReplaceAll(all, bytes[i:i+1], "")
		}
		return all
	}
	name := c.of(nameBytes, 12) + "x"
	pattern := without(" \t\n'$`={}")
	switch c.below(5) {
	case lex.Plain:
		return plain("a" + c.of(without(" \t\n'$`"), 8))
	case lex.Quoted:
		return quoted(c.of("' $`{}\n"+everyByte(), 8))
	case lex.Var:
		return variable(name)
	case lex.Subst:
		return subst(name, c.of(pattern, 6), c.of(pattern, 6))
	}
	return back(c.of(without("{}"), 8))
}

// What words are made of is what is read of their texts.
func TestMadeWordsComeBack(t *testing.T) {
	c := chance(4)
	for range 3000 {
		var words [][]lex.Piece
		var list []string
		for range c.below(5) {
			w := c.made()
			words = append(words, w)
			list = append(list, lex.Text(w))
		}
		for _, b := range blanks {
			isWords(t, strings.Join(list, b), words...)
		}
	}
}

func TestGreatTextsComeBack(t *testing.T) {
	const many = 1 << 12
	_, text := pieces()
	all := strings.Join(text, "")
	comesBack(t, strings.Repeat(all, many))
	comesBack(t, strings.Repeat(all+" ", many))
	comesBack(t, strings.Repeat("a ", many))
	comesBack(t, "'"+strings.Repeat("''", many)+"'")
}
