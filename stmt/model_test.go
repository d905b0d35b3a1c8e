package stmt_test

import (
	"regexp"
	"strings"
	"testing"

	"millwright/api"
	"millwright/attr"
	"millwright/lex"
	"millwright/lines"
	"millwright/stmt"
)

// chance is numbers without a plan, the same ones each time.
type chance uint64

// below is a number of 0 up to, but not, another one.
func (c *chance) below(n int) int {
	*c ^= *c << 13
	*c ^= *c >> 7
	*c ^= *c << 17
	return int(uint64(*c) >> 16 % uint64(n))
}

// one is one of some texts.
func (c *chance) one(of ...string) string { return of[c.below(len(of))] }

// of is a text of fewer than most bytes out of an alphabet.
func (c *chance) of(alphabet string, most int) string {
	out := make([]byte, c.below(most))
	for i := range out {
		out[i] = alphabet[c.below(len(alphabet))]
	}
	return string(out)
}

// texts is all texts of up to most bytes out of an alphabet.
func texts(alphabet string, most int) []string {
	all := []string{""}
	for from := 0; most > 0; most-- {
		to := len(all)
		for _, s := range all[from:to] {
			for i := range len(alphabet) {
				all = append(all, s+alphabet[i:i+1])
			}
		}
		from = to
	}
	return all
}

// The forms of the chapter's words, as expressions.
var (
	commandForm = regexp.MustCompile(`(?s)^<\|[ \t]*(.*?)[ \t]*$`)
	includeForm = regexp.MustCompile(`(?s)^<(.*)$`)
	nameForm    = regexp.MustCompile(`^[ \t]*([A-Za-z0-9_]{1,12})[ \t]*$`)
	hiddenForm  = regexp.MustCompile(`^[ \t]*U+[ \t]*$`)
	attrForm    = regexp.MustCompile(`(?s)^([^:]*):(.*)$`)
	noAttrForm  = regexp.MustCompile(`(?s)^([ \t].*)?$`)
	blankForm   = regexp.MustCompile(`^[ \t]*$`)
)

// signAt is where the first of some signs stands outside of pieces: all ahead of it is whole words.
func signAt(text, signs string) (int, bool) {
	for i := range len(text) {
		if strings.Contains(signs, text[i:i+1]) {
			if _, err := lex.Words(text[:i]); err == nil {
				return i, true
			}
		}
	}
	return 0, false
}

// lineModel is a second working-out of what a logical line that isn't empty gives.
func lineModel(text string) (stmt.Stmt, error) {
	if m := commandForm.FindStringSubmatch(text); m != nil {
		if m[1] == "" {
			return stmt.Stmt{}, api.ErrForm
		}
		return command(m[1]), nil
	}
	if m := includeForm.FindStringSubmatch(text); m != nil {
		words, err := lex.Words(m[1])
		if err == nil && words == nil {
			err = api.ErrForm
		}
		return include(words...), err
	}
	at, is := signAt(text, ":=")
	if !is {
		if _, err := lex.Words(text); err != nil {
			return stmt.Stmt{}, err
		}
		return stmt.Stmt{}, api.ErrForm
	}
	if text[at] == '=' {
		return assignModel(text[:at], text[at+1:])
	}
	return ruleModel(text[:at], text[at+1:])
}

func assignModel(ahead, behind string) (stmt.Stmt, error) {
	m := nameForm.FindStringSubmatch(ahead)
	if m == nil {
		return stmt.Stmt{}, api.ErrName
	}
	if at, is := signAt(behind, "="); is && hiddenForm.MatchString(behind[:at]) {
		words, err := lex.Words(behind[at+1:])
		return hidden(m[1], words...), err
	}
	words, err := lex.Words(behind)
	return assign(m[1], words...), err
}

func ruleModel(ahead, behind string) (stmt.Stmt, error) {
	heads, err := lex.Words(ahead)
	if err != nil {
		return stmt.Stmt{}, err
	}
	if heads == nil {
		return stmt.Stmt{}, api.ErrForm
	}
	var a attr.Attr
	if !noAttrForm.MatchString(behind) {
		m := attrForm.FindStringSubmatch(behind)
		if m == nil {
			return stmt.Stmt{}, api.ErrAttr
		}
		if a, err = attr.Parse(m[1]); err != nil {
			return stmt.Stmt{}, err
		}
		behind = m[2]
	}
	words, err := lex.Words(behind)
	return with(rule(heads, words), a.Flags, a.Prog), err
}

// model is a second working-out of what lines give: the statements, or the line of the first fault and what it is.
func model(list []lines.Line) ([]stmt.Stmt, int, error) {
	var out []stmt.Stmt
	open := false
	for _, l := range list {
		switch {
		case l.Recipe && open:
			out[len(out)-1].Recipe += l.Text + "\n"
		case l.Recipe && blankForm.MatchString(l.Text):
		case l.Recipe:
			return nil, l.Number, api.ErrForm
		case l.Text == "":
			open = false
		default:
			s, err := lineModel(l.Text)
			if err != nil {
				return nil, l.Number, err
			}
			out = append(out, on(l.Number, s))
			open = s.Kind == stmt.Rule
		}
	}
	return out, 0, nil
}

// isModelled wants of lines what the second working-out gives, and tells of it the error.
func isModelled(t *testing.T, list []lines.Line) error {
	t.Helper()
	want, at, err := model(list)
	if err != nil {
		isFault(t, list, at, err)
	} else {
		isParsed(t, list, want...)
	}
	if t.Failed() {
		t.FailNow()
	}
	return err
}

// isModelledOf is that of a text.
func isModelledOf(t *testing.T, text string) error {
	t.Helper()
	list, err := lines.Split(text)
	if err != nil {
		at, _ := lines.Where(err)
		isWrongOf(t, text, at, err.(*lines.Fault).Err)
		return err
	}
	want, at, err := model(list)
	if err != nil {
		isWrongOf(t, text, at, err)
	} else {
		isOf(t, text, want...)
	}
	if t.Failed() {
		t.FailNow()
	}
	return err
}

// P19.1, of all lines

func TestAllShortLines(t *testing.T) {
	for _, c := range []struct {
		alphabet string
		most     int
	}{
		{"a:", 9},
		{"x=U", 8},
		{"x=U \t", 6},
		{"a: V", 7},
		{"a:P'", 7},
		{"<|a ", 6},
		{"a:='", 7},
		{"a$:={}", 6},
		{"`{:=} a", 5},
		{"x:=<|U \n", 5},
		{"a:VQPx 'n", 5},
	} {
		for _, s := range texts(c.alphabet, c.most) {
			isModelled(t, []lines.Line{logical(3, s)})
		}
	}
	for _, s := range texts("x=U \t", 6) {
		isModelled(t, []lines.Line{logical(3, "x ="+s+"= a")})
	}
	for _, s := range texts("VP: 'x\t", 5) {
		isModelled(t, []lines.Line{logical(3, "a:"+s)})
		isModelled(t, []lines.Line{logical(3, "a:V"+s+"b")})
	}
}

func TestAllShortRowsOfLines(t *testing.T) {
	kinds := []lines.Line{logical(0, ""), logical(0, "a:"), logical(0, "b:V: c"), logical(0, "x = a"), logical(0, "<a"), logical(0, "word"), recipe(0, ""), recipe(0, " \t"), recipe(0, "make")}
	var grow func(list []lines.Line)
	grow = func(list []lines.Line) {
		isModelled(t, list)
		if len(list) == 5 {
			return
		}
		for _, k := range kinds {
			k.Number = len(list) + 1
			grow(append(list[:len(list):len(list)], k))
		}
	}
	grow(nil)
}

func TestAllShortTexts(t *testing.T) {
	for _, c := range []struct {
		alphabet string
		most     int
	}{
		{"a:\n\t", 8},
		{"x=\n\t", 7},
		{"<a\n ", 7},
		{"a:=\n #", 6},
		{"a:\\\n\t'", 6},
	} {
		for _, s := range texts(c.alphabet, c.most) {
			isModelledOf(t, s)
		}
	}
}

// line is a line's text, of the bits that statements are made of.
func (c *chance) line() string {
	bits := []string{" ", "\t", ":", "=", "<", "|", "U", "V", "Q", "P", "x", "y_1", "%.o", ":V:", "=U=", ": ", " = ", "'a:b'", "'='", "''", "'", "$x", "${x}", "${x:%=y}", "$", "${", "`{a:b=c}", "`", "\\", ";", "\xff", "long_names_have_13"}
	var out strings.Builder
	out.WriteString(c.one("x = ", "x =U= ", "a: ", "a b:", "a:V:", "<", "<|", "", "", ""))
	for range c.below(9) {
		out.WriteString(c.one(bits...))
	}
	return out.String()
}

// mkfile is a text of some physical lines, most of them right.
func (c *chance) mkfile() string {
	shapes := []string{"a: b", "a:V: b c", "b:", "a:Pcmp -s: 'b c'", "x = a b", "x=U=a", "y = ", "<a b", "<|gen 'it", "", "# c", "\tmake", "  run # it", "\t", " \t ", "x = a \\", "a: b # c", "\tmake \\"}
	wrong := []string{"word", "x y = a", ": a", "a:V", "a:x: b", "<", "$", "'a", "x = ${", "<|", "a: `"}
	var out strings.Builder
	for range c.below(12) {
		if c.below(40) == 0 {
			out.WriteString(c.one(wrong...))
		} else {
			out.WriteString(c.one(shapes...))
		}
		if c.below(30) > 0 {
			out.WriteByte('\n')
		}
	}
	return out.String()
}

func TestLinesWithoutAPlan(t *testing.T) {
	c := chance(2)
	right, faulty := 0, 0
	count := func(err error) {
		if err == nil {
			right++
		} else {
			faulty++
		}
	}
	for range 40000 {
		count(isModelled(t, []lines.Line{logical(c.below(9)-4, c.line())}))
		var list []lines.Line
		for range c.below(5) {
			l := lines.Line{Text: c.one(c.line(), c.of(" \t", 3), "a: b", "x = a"), Number: c.below(9) - 4, Recipe: c.below(3) == 0}
			list = append(list, l)
		}
		count(isModelled(t, list))
	}
	if min(right, faulty) < 10000 {
		t.Errorf("just %d are right, %d wrong", right, faulty)
	}
}

func TestTextsWithoutAPlan(t *testing.T) {
	c := chance(3)
	right, faulty := 0, 0
	for range 20000 {
		for _, s := range []string{c.mkfile(), c.line() + "\n" + c.mkfile(), c.line() + "\n\t" + c.line(), c.of("ax:=<|UV'$`{}% \t\n\\#", 60)} {
			if isModelledOf(t, s) == nil {
				right++
			} else {
				faulty++
			}
		}
	}
	if min(right, faulty) < 10000 {
		t.Errorf("just %d are right, %d wrong", right, faulty)
	}
}

// No bytes make a call panic, and each error is a fault.
func TestTextsOfAnyBytes(t *testing.T) {
	all := make([]byte, 256)
	for b := range all {
		all[b] = byte(b)
	}
	c := chance(4)
	for range 20000 {
		isModelledOf(t, c.of(string(all), 40))
		isModelled(t, []lines.Line{logical(1, c.of(string(all), 40)), {Text: c.of(string(all), 9), Number: 2, Recipe: c.below(2) == 0}})
	}
	for i := range 256 {
		for k := range 256 {
			s := string([]byte{byte(i), byte(k)})
			isModelled(t, []lines.Line{logical(1, s)})
			isModelled(t, []lines.Line{logical(1, "a"+s+"b")})
			isModelled(t, []lines.Line{logical(1, "a:"+s+": b")})
			isModelled(t, []lines.Line{logical(1, "x="+s+"=b")})
		}
	}
}
