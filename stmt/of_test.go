package stmt_test

import (
	"strings"
	"testing"

	"millwright/api"
	"millwright/lines"
	"millwright/stmt"
)

// P19.1, of Of

func TestOfTextsWithoutStatements(t *testing.T) {
	for _, text := range []string{"", "\n", "\n\n\n", "# c", "# c\n", "#\n# a: b\n\n# c", " ", "\t", " \t \n", "\n \n\t\n", "\\\n\n", "\\\n\\\n\n", "\\\n \t\n", "\\\n# c\n", "# c\n\t\n  \t\n", strings.Repeat("\n", api.MaxText), strings.Repeat("\t\n", api.MaxText/2), "#" + strings.Repeat("a", api.MaxText-1)} {
		isOf(t, text)
	}
	// The last physical line's backslash is a byte of the line.
	isWrongOf(t, "\\\n", 1, api.ErrForm)
}

func TestOfSplitsErrors(t *testing.T) {
	line := strings.Repeat("a", api.MaxLine)
	isWrongOf(t, strings.Repeat("\n", api.MaxText+1), 0, api.ErrLong)
	isWrongOf(t, strings.Repeat("x = a\n", api.MaxText), 0, api.ErrLong)
	isWrongOf(t, strings.Repeat("'", api.MaxText+1), 0, api.ErrLong)
	isWrongOf(t, "'a\n", 1, api.ErrQuote)
	isWrongOf(t, "x = 'a\nb'\n", 1, api.ErrQuote)
	isWrongOf(t, "x = a\n\na: b 'c\n", 3, api.ErrQuote)
	isWrongOf(t, "x = a\\\n'b\n", 2, api.ErrQuote)
	isWrongOf(t, "x = a\n"+line+"a\n", 2, api.ErrLong)
	isWrongOf(t, "a: b\n\t"+line+"a\n", 2, api.ErrLong)
	isWrongOf(t, "a: b\n\n\t"+line+"a\n", 3, api.ErrLong)
	// They come first, in whichever line they are.
	isWrongOf(t, "word\n'a\n", 2, api.ErrQuote)
	isWrongOf(t, "\tmake\nx y = a\na:V\n<\n$\n"+line+"a\n", 6, api.ErrLong)
	isWrongOf(t, "word\n"+strings.Repeat("\n", api.MaxText), 0, api.ErrLong)
	// What just isn't too long is read.
	isOf(t, "a: b\n\t"+line+"\n", on(1, made(rule(row("a"), row("b")), line+"\n")))
	isWrongOf(t, "x = a\n"+line+"\n", 2, api.ErrForm)
	value := strings.Repeat("a", api.MaxLine-len("x = "))
	isOf(t, "x = "+value+"\n", on(1, assign("x", row(value)...)))
	isOf(t, "<"+line[1:]+"\n", on(1, include(row(line[1:])...)))
}

func TestOfManyStatements(t *testing.T) {
	isOf(t, "x =U= a b\na b:VD: c $x\n\tmake\n\trun\n<inc\n<|gen it\n",
		on(1, hidden("x", row("a", "b")...)),
		on(2, made(with(rule(row("a", "b"), rows(word(plain("c")), word(variable("x")))), 129, ""), "make\nrun\n")),
		on(5, include(row("inc")...)),
		on(6, command("gen it")))
	isOf(t, "# a mkfile\nCC = cc -g\nOBJ = ${SRC:%.c=%.o}\n\n<| gen 'x' # not read\n\nall:V: prog\t# the first\n\nprog: $OBJ \\\n  lib.a\n\t$CC -o $target \\\n\t# told\n\n%.o: %.c\n\t$CC -c $stem.c\n\n<rules.mk\n  \n",
		on(2, assign("CC", row("cc", "-g")...)),
		on(3, assign("OBJ", word(subst("SRC", "%.c", "%.o")))),
		on(5, command("gen 'x'")),
		on(7, with(rule(row("all"), row("prog")), 128, "")),
		on(9, made(rule(row("prog"), rows(word(variable("OBJ")), word(plain("lib.a")))), "$CC -o $target \\\n# told\n")),
		on(14, made(rule(row("%.o"), row("%.c")), "$CC -c $stem.c\n")),
		on(17, include(row("rules.mk")...)))
	var want []stmt.Stmt
	for i := range api.MaxText / len("x=\n") {
		want = append(want, on(i+1, assign("x")))
	}
	isOf(t, strings.Repeat("x=\n", api.MaxText/len("x=\n")), want...)
	want = nil
	for i := range api.MaxText / len("a:\n\tb\n") {
		want = append(want, on(2*i+1, made(rule(row("a"), nil), "b\n")))
	}
	isOf(t, strings.Repeat("a:\n\tb\n", api.MaxText/len("a:\n\tb\n")), want...)
}

// Of is Parse of Split's lines.
func TestOfIsParseOfLines(t *testing.T) {
	c := chance(1)
	for range 20000 {
		text := c.mkfile()
		list, err := lines.Split(text)
		if err != nil {
			at, _ := lines.Where(err)
			isWrongOf(t, text, at, err.(*lines.Fault).Err)
			continue
		}
		want, err := stmt.Parse(list)
		if err != nil {
			at, _ := lines.Where(err)
			isWrongOf(t, text, at, err.(*lines.Fault).Err)
			continue
		}
		isOf(t, text, want...)
	}
}
