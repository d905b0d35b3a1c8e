package stmt_test

import (
	"errors"
	"fmt"
	"math"
	"strconv"
	"strings"
	"testing"

	"millwright/attr"
	"millwright/lex"
	"millwright/lines"
	"millwright/stmt"
)

func plain(s string) lex.Piece    { return lex.Piece{Kind: lex.Plain, Text: s} }
func quoted(s string) lex.Piece   { return lex.Piece{Kind: lex.Quoted, Text: s} }
func variable(s string) lex.Piece { return lex.Piece{Kind: lex.Var, Text: s} }
func back(s string) lex.Piece     { return lex.Piece{Kind: lex.Back, Text: s} }

func subst(s, from, to string) lex.Piece {
	return lex.Piece{Kind: lex.Subst, Text: s, From: from, To: to}
}

// word is a word of pieces.
func word(pieces ...lex.Piece) []lex.Piece { return pieces }

// row is words of one Plain piece each.
func row(texts ...string) [][]lex.Piece {
	var out [][]lex.Piece
	for _, s := range texts {
		out = append(out, word(plain(s)))
	}
	return out
}

// rows is words.
func rows(words ...[]lex.Piece) [][]lex.Piece { return words }

func assign(name string, words ...[]lex.Piece) stmt.Stmt {
	return stmt.Stmt{Kind: stmt.Assign, Name: name, Words: words}
}

func hidden(name string, words ...[]lex.Piece) stmt.Stmt {
	return stmt.Stmt{Kind: stmt.Assign, Name: name, Words: words, Hidden: true}
}

func include(words ...[]lex.Piece) stmt.Stmt {
	return stmt.Stmt{Kind: stmt.Include, Words: words}
}

func command(name string) stmt.Stmt {
	return stmt.Stmt{Kind: stmt.Include, Name: name, Command: true}
}

func rule(heads, words [][]lex.Piece) stmt.Stmt {
	return stmt.Stmt{Kind: stmt.Rule, Heads: heads, Words: words}
}

// with is a statement with attributes.
func with(s stmt.Stmt, flags int, prog string) stmt.Stmt {
	s.Attr = attr.Attr{Flags: flags, Prog: prog}
	return s
}

// made is a statement with a recipe.
func made(s stmt.Stmt, recipe string) stmt.Stmt {
	s.Recipe = recipe
	return s
}

// on is a statement of a line.
func on(line int, s stmt.Stmt) stmt.Stmt {
	s.Line = line
	return s
}

// logical is a logical line.
func logical(number int, text string) lines.Line {
	return lines.Line{Text: text, Number: number}
}

// recipe is a recipe line.
func recipe(number int, text string) lines.Line {
	return lines.Line{Text: text, Number: number, Recipe: true}
}

// wordsText is words as a text in which each of their parts can be told apart.
func wordsText(words [][]lex.Piece) string {
	out := []byte{'['}
	for _, w := range words {
		out = append(out, '(')
		for _, p := range w {
			out = fmt.Appendf(out, "%d %q %q %q;", p.Kind, p.Text, p.From, p.To)
		}
		out = append(out, ')')
	}
	return string(append(out, ']'))
}

// whole is a statement as a text in which each of its parts can be told apart; words that are none are the same in both ways.
func whole(s stmt.Stmt) string {
	return fmt.Sprintf("%d@%d name %q heads %s words %s attr %d %q recipe %q hidden %t command %t", s.Kind, s.Line, s.Name, wordsText(s.Heads), wordsText(s.Words), s.Attr.Flags, s.Attr.Prog, s.Recipe, s.Hidden, s.Command)
}

// told is statements, each told whole.
func told(list []stmt.Stmt) string {
	var out []string
	for _, s := range list {
		out = append(out, whole(s))
	}
	return strings.Join(out, "\n")
}

// shown is a text as a message shows it: a great one just as far as one can read it.
func shown(s string) string {
	const most = 600
	if len(s) > most {
		return strconv.Quote(s[:most]) + ".. (" + strconv.Itoa(len(s)) + ")"
	}
	return strconv.Quote(s)
}

// shownLines is lines as a message shows them.
func shownLines(list []lines.Line) string { return shown(fmt.Sprintf("%+v", list)) }

// fault tells what is wrong with an error that should be a fault itself, of a line; with none it tells nothing.
func fault(err error, line int, want error) string {
	f, is := err.(*lines.Fault)
	at, where := lines.Where(err)
	switch {
	case !is || f == nil:
		return fmt.Sprintf("%v is no *lines.Fault", err)
	case f.Line != line || !where || at != line:
		return fmt.Sprintf("a fault of line %d, not of %d", f.Line, line)
	case !errors.Is(err, want) || !errors.Is(f.Err, want):
		return fmt.Sprintf("a fault that says %v, not %v", f.Err, want)
	}
	return ""
}

// isParsed wants the statements of lines.
func isParsed(t *testing.T, list []lines.Line, want ...stmt.Stmt) {
	t.Helper()
	got, err := stmt.Parse(list)
	if err != nil || told(got) != told(want) {
		t.Errorf("Parse(%s) is\n%s (%v), not\n%s", shownLines(list), told(got), err, told(want))
	}
}

// isFault wants a fault of lines, and nothing beside it.
func isFault(t *testing.T, list []lines.Line, line int, want error) {
	t.Helper()
	got, err := stmt.Parse(list)
	if wrong := fault(err, line, want); wrong != "" || len(got) != 0 {
		t.Errorf("Parse(%s) is %s, with %s", shownLines(list), wrong, told(got))
	}
}

// isOf wants the statements of a text.
func isOf(t *testing.T, text string, want ...stmt.Stmt) {
	t.Helper()
	got, err := stmt.Of(text)
	if err != nil || told(got) != told(want) {
		t.Errorf("Of(%s) is\n%s (%v), not\n%s", shown(text), told(got), err, told(want))
	}
}

// isWrongOf wants a fault of a text, and nothing beside it.
func isWrongOf(t *testing.T, text string, line int, want error) {
	t.Helper()
	got, err := stmt.Of(text)
	if wrong := fault(err, line, want); wrong != "" || len(got) != 0 {
		t.Errorf("Of(%s) is %s, with %s", shown(text), wrong, told(got))
	}
}

// stands tells whether a text is what Split makes of it alone.
func stands(text string) bool {
	list, err := lines.Split(text)
	return err == nil && len(list) == 1 && list[0] == logical(1, text)
}

// gives wants a statement of a logical line, as such and, where a text gives that line, of the text.
func gives(t *testing.T, text string, want stmt.Stmt) {
	t.Helper()
	isParsed(t, []lines.Line{logical(7, text)}, on(7, want))
	if stands(text) {
		isOf(t, text, on(1, want))
		isOf(t, "\n# c\n"+text+"\n", on(3, want))
	}
}

// wrong wants a fault of a logical line, as such and, where a text gives that line, of the text.
func wrong(t *testing.T, text string, want error) {
	t.Helper()
	isFault(t, []lines.Line{logical(7, text)}, 7, want)
	if stands(text) {
		isWrongOf(t, text, 1, want)
		isWrongOf(t, "\n# c\n"+text+"\n", 3, want)
	}
}

// P19.1, of the kinds

func TestKinds(t *testing.T) {
	if stmt.Assign != 1 || stmt.Rule != 2 || stmt.Include != 3 {
		t.Errorf("the kinds are %d %d %d", stmt.Assign, stmt.Rule, stmt.Include)
	}
}

// P19.1, of Word

func TestWord(t *testing.T) {
	for kind, want := range map[int]string{
		1: "assign", 2: "rule", 3: "include",
		0: "", 4: "", -1: "", -2: "", -3: "", 5: "", 100: "", -100: "",
		257: "", 1 << 16: "", 1<<16 + 1: "", 1<<32 + 1: "", 1<<32 + 2: "", -1 << 32: "",
		math.MaxInt: "", math.MinInt: "", math.MaxInt - 1: "", math.MinInt + 1: "", math.MinInt + 3: "",
	} {
		if got := stmt.Word(kind); got != want {
			t.Errorf("Word(%d) is %q, not %q", kind, got, want)
		}
	}
	for kind := 4; kind < 5000; kind++ {
		if stmt.Word(kind) != "" || stmt.Word(3-kind) != "" {
			t.Errorf("Word(%d) is %q, Word(%d) is %q", kind, stmt.Word(kind), 3-kind, stmt.Word(3-kind))
		}
	}
}
