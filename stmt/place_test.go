package stmt_test

import (
	"strings"
	"testing"

	"millwright/api"
	"millwright/lex"
	"millwright/lines"
	"millwright/stmt"
)

// P19.2

// alone is texts that are one statement's alone, each ended by a line feed.
func alone() []string {
	return []string{
		"x = a b\n",
		"x =\n",
		"x=\t\n",
		"y =U= 'a b' $c\n",
		"x = a \\\n  b \\\nc\n",
		"x = \\\n\n",
		"x = 'a # b: c' # d: e\n",
		"x = a \\\\\\\n# b\n",
		"a:\n",
		"a: b # c\n",
		"a b: c d\n\tmake\n\trun\n",
		"a:V: b\n\t\n",
		"a:VQPcmp -s: 'b c'\n \t \n\tmake # it\n",
		"a: \\\nb \\\n\tc\n\tmake \\\n\trun\\\n",
		"a:\n x = c\n\t<inc\n\tword\n\t'\n",
		"<a\n",
		"< 'a b' $c # d\n",
		"<a \\\nb\n",
		"<|gen it\n",
		"<|gen 'a # b' # c\n",
	}
}

// beside is what may stand ahead of a statement's text, or behind it.
func beside() []string {
	return append(alone(), "", "\n", "# c\n", "\n\n# c\n\n", "\n\t\n", "x = a\n\t\n \t\n", "a: b\n\n\t\n", "x = a\na: b\n\tmake\n\n<a\n\n", strings.Repeat("a:\n\tmake\n", 20))
}

// ofText is a text's statements, of which all is right.
func ofText(t *testing.T, text string) []stmt.Stmt {
	t.Helper()
	list, err := stmt.Of(text)
	if err != nil {
		t.Fatalf("Of(%s) has %v", shown(text), err)
	}
	return list
}

// moved is statements that stand some lines further down.
func moved(list []stmt.Stmt, by int) []stmt.Stmt {
	var out []stmt.Stmt
	for _, s := range list {
		s.Line += by
		out = append(out, s)
	}
	return out
}

func TestAStatementsTextIsThatStatementEverywhere(t *testing.T) {
	for _, text := range alone() {
		own := ofText(t, text)
		if len(own) != 1 || own[0].Line != 1 {
			t.Fatalf("Of(%s) is %s", shown(text), told(own))
		}
		for _, ahead := range beside() {
			want := append(ofText(t, ahead), moved(own, lines.Count(ahead))...)
			isOf(t, ahead+text, want...)
			for _, behind := range beside() {
				all := append(want[:len(want):len(want)], moved(ofText(t, behind), lines.Count(ahead+text))...)
				isOf(t, ahead+text+behind, all...)
			}
		}
	}
}

// A statement whose text has no line feed at its end stands at the end of all, alone or not.
func TestAStatementsTextAtTheEnd(t *testing.T) {
	for _, text := range []string{"x = a", "x =U= a", "x =", "a:", "a:V: b", "a: b\n\tmake", "a: b\n\t", "a: b\n\tmake\\", "<a", "<|gen it", "x = a # c", "x = a\\", "a: b\\"} {
		own := ofText(t, text)
		for _, ahead := range beside() {
			isOf(t, ahead+text, append(ofText(t, ahead), moved(own, lines.Count(ahead))...)...)
		}
	}
}

// written is a statement that is made up, and a text that is its alone: the words are put down piece by piece, with blanks as may be.
func (c *chance) written() (string, stmt.Stmt) {
	gap := func() string { return c.one("", " ", "\t", "  ", " \\\n ", "\t\\\n\\\n") }
	end := gap() + c.one("", "# c", "#'", "# a: b \\") + "\n"
	switch c.below(4) {
	case 0:
		name, sign := c.one("x", "CC", "_9", "abcdefghij_9"), "="
		s := assign(name, c.words(0)...)
		if s.Hidden = c.below(2) == 0; s.Hidden {
			sign = "=" + gap() + c.one("U", "UU") + gap() + "="
		} else if len(s.Words) == 0 {
			return name + gap() + sign + end, s
		}
		return name + gap() + sign + gap() + c.told(s.Words) + end, s
	case 1:
		s := include(c.words(1)...)
		// A word may begin with what makes it a command's.
		return "<" + c.one(" ", "\t") + gap() + c.told(s.Words) + end, s
	case 2:
		name := c.one("gen", "gen it", "gen  'a # b' | $c", "|", "< a: b")
		return "<|" + gap() + name + " " + end, command(name)
	}
	s := rule(c.words(1), c.words(0))
	text := c.told(s.Heads) + gap() + ":"
	if c.below(2) == 0 {
		letters := c.one("", "V", "QV", "D", "VPcmp -s")
		s = with(s, map[string]int{"": 0, "V": 128, "QV": 144, "D": 1, "VPcmp -s": 128}[letters], map[string]string{"VPcmp -s": "cmp -s"}[letters])
		text += letters + ":" + gap()
	} else {
		text += " " + gap()
	}
	text += c.told(s.Words) + end
	for range c.below(4) {
		line := c.one("", "make", " run ", "\t", "$CC -c '", "x = a", "# c", "a \\")
		s.Recipe += line + "\n"
		text += c.one(" ", "\t") + line + "\n"
	}
	return text, s
}

// words is some words of pieces, at least so many, in which no byte has a meaning to a statement but within quotes, variables and commands.
func (c *chance) words(least int) [][]lex.Piece {
	var out [][]lex.Piece
	for range least + c.below(4) {
		var w []lex.Piece
		for range 1 + c.below(3) {
			p := []lex.Piece{plain(c.one("a", "b.c", "%.o", "U", "&", "-")), quoted(c.one("", "a b", ":", "=", "#", "it's", "<|a: b = c")), variable(c.one("x", "CC")), subst("x", c.one("", "%.c", ":"), c.one("", "%.o", "a:b")), back(c.one("", "ls *.c", "a: b = c"))}[c.below(5)]
			if last := len(w) - 1; last < 0 || w[last].Kind != p.Kind || p.Kind > lex.Quoted {
				w = append(w, p)
			}
		}
		out = append(out, w)
	}
	return out
}

// told is words as a text, with blanks between.
func (c *chance) told(words [][]lex.Piece) string {
	var out strings.Builder
	for i, w := range words {
		if i > 0 {
			out.WriteString(c.one(" ", "\t", "  ", " \\\n", "\\\n\t"))
		}
		out.WriteString(lex.Text(w))
	}
	return out.String()
}

func TestStatementsThatAreWritten(t *testing.T) {
	c := chance(6)
	for range 20000 {
		var text strings.Builder
		var want []stmt.Stmt
		for range 1 + c.below(5) {
			if c.below(3) == 0 {
				text.WriteString(c.one("\n", "# c\n", "\n \t\n", "#\n\n"))
			}
			one, s := c.written()
			if one[0] == ' ' || one[0] == '\t' {
				t.Fatalf("%s begins with a blank", shown(one))
			}
			isOf(t, one, on(1, s))
			want = append(want, on(lines.Count(text.String())+1, s))
			text.WriteString(one)
		}
		if text.Len() <= api.MaxText {
			isOf(t, text.String(), want...)
		}
		if t.Failed() {
			return
		}
	}
}

// Of texts that are right, one behind the other, the statements are one behind the other, too.
func TestTextsOneBehindTheOther(t *testing.T) {
	c := chance(7)
	pairs := 0
	for range 60000 {
		a, b := c.mkfile(), c.mkfile()
		one, errA := stmt.Of(a)
		other, errB := stmt.Of(b)
		// A line that goes on, or a recipe line behind a Rule, belongs to both.
		if errA != nil || errB != nil || !strings.HasSuffix(a, "\n") || strings.HasSuffix(a, "\\\n") || strings.HasPrefix(b, " ") || strings.HasPrefix(b, "\t") {
			continue
		}
		pairs++
		isOf(t, a+b, append(one, moved(other, lines.Count(a))...)...)
		if t.Failed() {
			return
		}
	}
	if pairs < 5000 {
		t.Errorf("just %d pairs are right", pairs)
	}
}

// rises wants that a text's statements stand on lines that rise, each on one that the text has, and behind the Recipe ahead of it.
func rises(t *testing.T, text string) bool {
	t.Helper()
	list, err := stmt.Of(text)
	if err != nil {
		return false
	}
	line := 0
	for _, s := range list {
		if s.Line <= line || s.Line > lines.Count(text) {
			t.Fatalf("Of(%s) is\n%s", shown(text), told(list))
		}
		line = s.Line + strings.Count(s.Recipe, "\n")
	}
	return len(list) > 1
}

func TestLinesRise(t *testing.T) {
	c := chance(8)
	many := 0
	for range 40000 {
		if rises(t, c.mkfile()) {
			many++
		}
	}
	for _, s := range texts("a:\n\t\\", 8) {
		if rises(t, s) {
			many++
		}
	}
	for _, a := range beside() {
		for _, b := range beside() {
			if rises(t, a+b) {
				many++
			}
		}
	}
	if many < 10000 {
		t.Errorf("just %d texts have several statements", many)
	}
}
