package lex_test

import (
	"errors"
	"strings"
	"testing"

	"millwright/api"
	"millwright/lex"
)

// reader reads a text once, byte by byte, and keeps in which of its parts it stands: a second working-out of the chapter's words.
type reader struct {
	words [][]lex.Piece
	word  []lex.Piece
	piece lex.Piece
	text  []byte // of the part of the piece that is read
	part  part
	plain []int // where bytes of Plain pieces stand
	err   error
}

// part is where a reader stands.
type part int

const (
	between part = iota // pieces, or words
	inPlain
	inQuoted
	behindQuote // within a quoted part: the next byte tells whether it was its end
	behindDollar
	inBare // a name without a bracket
	inName // one with a bracket
	inFrom
	inTo
	behindBackquote
	inBack
)

// read is what a reader has read of a text, up to its end or its first error.
func read(s string) *reader {
	r := &reader{}
	for i := range len(s) {
		r.step(i, s[i])
		if r.err != nil {
			return r
		}
	}
	r.end()
	return r
}

func (r *reader) step(i int, b byte) {
	switch r.part {
	case inQuoted:
		if b == '\'' {
			r.part = behindQuote
		} else {
			r.text = append(r.text, b)
		}
	case behindQuote:
		if b == '\'' {
			r.text, r.part = append(r.text, b), inQuoted
		} else {
			r.close()
			r.begin(i, b)
		}
	case behindDollar, inBare:
		r.bare(i, b)
	case inName:
		r.name(b)
	case inFrom, inTo:
		r.pattern(b)
	case behindBackquote, inBack:
		r.command(b)
	default:
		r.begin(i, b)
	}
}

// begin reads a byte outside of all pieces but Plain ones.
func (r *reader) begin(i int, b byte) {
	next := map[byte]part{'\'': inQuoted, '$': behindDollar, '`': behindBackquote, ' ': between, '\t': between, '\n': between}
	kinds := map[byte]int{'\'': lex.Quoted, '$': lex.Var, '`': lex.Back}
	to, parts := next[b]
	if r.part == inPlain && parts {
		r.close()
	}
	switch {
	case !parts:
		r.plain = append(r.plain, i)
		r.text, r.part = append(r.text, b), inPlain
	case to == between:
		r.closeWord()
	default:
		r.piece.Kind, r.part = kinds[b], to
	}
}

func (r *reader) bare(i int, b byte) {
	switch {
	case strings.IndexByte(nameBytes, b) >= 0:
		r.text, r.part = append(r.text, b), inBare
	case r.part == behindDollar && b == '{':
		r.part = inName
	case r.isName():
		r.close()
		r.begin(i, b)
	}
}

func (r *reader) name(b byte) {
	switch {
	case strings.IndexByte(nameBytes, b) >= 0:
		r.text = append(r.text, b)
	case !r.isName():
	case b == '}':
		r.close()
	case b == ':':
		r.piece = lex.Piece{Kind: lex.Subst, Text: string(r.text)}
		r.text, r.part = nil, inFrom
	default:
		r.err = api.ErrForm
	}
}

// isName tells whether what is read is a variable's name; else that is the error.
func (r *reader) isName() bool {
	if len(r.text) == 0 || len(r.text) > 12 {
		r.err = api.ErrName
	}
	return r.err == nil
}

func (r *reader) pattern(b byte) {
	switch {
	case r.part == inFrom && b == '=':
		r.piece.From = string(r.text)
		r.text, r.part = nil, inTo
	case r.part == inTo && b == '}':
		r.close()
	case strings.IndexByte(" \t\n'$`={}", b) >= 0:
		r.err = api.ErrForm
	default:
		r.text = append(r.text, b)
	}
}

func (r *reader) command(b byte) {
	switch {
	case r.part == behindBackquote && b == '{':
		r.part = inBack
	case r.part == behindBackquote || b == '{':
		r.err = api.ErrForm
	case b == '}':
		r.close()
	default:
		r.text = append(r.text, b)
	}
}

// close ends a piece.
func (r *reader) close() {
	if r.part == inTo {
		r.piece.To = string(r.text)
	} else {
		r.piece.Text = string(r.text)
	}
	r.word = append(r.word, r.piece)
	r.piece, r.text, r.part = lex.Piece{}, nil, between
}

func (r *reader) closeWord() {
	if len(r.word) > 0 {
		r.words = append(r.words, r.word)
	}
	r.word, r.part = nil, between
}

// end reads the end of the text.
func (r *reader) end() {
	switch r.part {
	case inPlain, behindQuote:
		r.close()
	case inQuoted:
		r.err = api.ErrQuote
	case behindDollar, inBare:
		if r.isName() {
			r.close()
		}
	case inName:
		if r.isName() {
			r.err = api.ErrForm
		}
	case inFrom, inTo, behindBackquote, inBack:
		r.err = api.ErrForm
	}
	r.closeWord()
}

// find is where the first of some signs stands.
func (r *reader) find(s, signs string) int {
	for _, i := range r.plain {
		if strings.IndexByte(signs, s[i]) >= 0 {
			return i
		}
	}
	return -1
}

// isRead tells by a test that a text has the words, the error and the signs that a reader has.
func isRead(t *testing.T, s string, signs ...string) {
	t.Helper()
	r := read(s)
	got, err := lex.Words(s)
	switch {
	case r.err == nil && (err != nil || !same(got, r.words)):
		t.Fatalf("Words(%s) is %s (%v), not %s", shown(s), told(got), err, told(r.words))
	case r.err != nil && (!errors.Is(err, r.err) || len(got) != 0):
		t.Fatalf("Words(%s) is %s (%v), not %v", shown(s), told(got), err, r.err)
	}
	for _, sign := range signs {
		if at, want := lex.Find(s, sign), r.find(s, sign); at != want {
			t.Fatalf("Find(%s, %q) is %d, not %d", shown(s), sign, at, want)
		}
	}
}

// P13.1, of Words and Find

func TestAllShortTexts(t *testing.T) {
	for _, c := range []struct {
		alphabet string
		most     int
	}{
		{"a' ", 9},
		{"'$`", 8},
		{"${}", 9},
		{"a$' ", 7},
		{"`{} ", 7},
		{"$a{}:=", 6},
		{"a '$`{}", 5},
		{"a_9-#\\%", 4},
		{"\n\t a'", 6},
		{"a '$`{}:=\n\x00\xff", 4},
	} {
		for _, s := range texts(c.alphabet, c.most) {
			isRead(t, s, "a", ":=", "}{")
		}
	}
}

func TestAllShortTextsWithinBrackets(t *testing.T) {
	for _, s := range texts("a:=} '$`{", 5) {
		isRead(t, "${"+s, "a", ":=")
		isRead(t, "`{"+s, "a", ":=")
	}
	for _, s := range texts("a:=}", 8) {
		isRead(t, "${x:"+s, ":", "=")
		isRead(t, "-${x:a"+s+"-", "a-", "=")
	}
}

func TestNamesNearTheLimit(t *testing.T) {
	for n := range 16 {
		name := strings.Repeat("x", n)
		for _, ahead := range []string{"", "a", " ", "'a'", "$y", "${y}"} {
			for _, behind := range []string{"", "}", "} }", " ", "'", "'a'", "$", "$z", "`", "`{}", "-", ":", ":a=b", ":a=b}", ":a=b} c:d", ":a}", "=", "\xff", "\x00"} {
				isRead(t, ahead+"$"+name+behind, ":", "}", "-")
				isRead(t, ahead+"${"+name+behind, ":", "}", "-")
			}
		}
	}
}

func TestTextsWithoutAPlan(t *testing.T) {
	c := chance(1)
	for range 60000 {
		isRead(t, c.text(30), c.text(5), "a")
	}
	for range 3000 {
		isRead(t, c.text(400), c.text(5), everyByte())
	}
	for range 100 {
		isRead(t, c.text(api.MaxText), c.text(5), ":")
	}
}

// shapes is texts of the shapes that mkfiles have, right ones and such as aren't.
func (c *chance) shapes() string {
	all := []string{"a", "b.c", "-o", "%.o:", "x=", ":", "=", "{", "}", "#", "\\", "''", "'b c'", "'it''s'", "'$x'", "$x", "$CC", "${x}", "${" + name12 + "}", "$_", "${x:%.c=%.o}", "${x:=}", "${x:a:b=c}", "`{ls}", "`{}", "`{echo 'a' $b}", " ", "  ", "\t", "\n"}
	wrong := []string{"'", "$", "${", "${}", "${x", "${x:a}", "${x:a=b=c}", "${x y}", "`", "`{", "`{a{", "$" + name13, "${" + name13 + "}"}
	var out strings.Builder
	for range c.below(16) {
		out.WriteString(all[c.below(len(all))])
		if c.below(40) == 0 {
			out.WriteString(wrong[c.below(len(wrong))])
		}
	}
	return out.String()
}

func TestTextsAsMkfilesHaveThem(t *testing.T) {
	c := chance(2)
	for range 60000 {
		isRead(t, c.shapes(), ":", "=", ":=", "a")
	}
}

func TestEachByteEverywhere(t *testing.T) {
	for b := range 256 {
		one := string([]byte{byte(b)})
		for _, s := range []string{"", one, one + one, "a" + one, one + "a", "a" + one + "b", "'" + one + "'", "'" + one, "'a'" + one, one + "'a'", "$" + one, "$x" + one, "$x" + one + "y", "${" + one, "${" + one + "}", "${x" + one, "${x" + one + "}", "${x" + one + "y}", "${x}" + one, "${x:" + one, "${x:" + one + "=b}", "${x:a=" + one + "}", "${x:a=b" + one, "${x:a=b" + one + "}", "${x:a=b}" + one, "`" + one, "`" + one + "}", "`{" + one, "`{" + one + "}", "`{a" + one + "b}", "`{a}" + one, " " + one + " ", "a " + one + "\tb"} {
			isRead(t, s, one, "a", "b}", everyByte())
		}
	}
}

func TestEveryTwoBytes(t *testing.T) {
	for a := range 256 {
		for b := range 256 {
			two := string([]byte{byte(a), byte(b)})
			isRead(t, two, two[:1], two[1:])
			isRead(t, "${x:a"+two+"b}")
			isRead(t, "`{"+two+"}")
			isRead(t, "'"+two+"'")
		}
	}
}
