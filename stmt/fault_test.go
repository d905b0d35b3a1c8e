package stmt_test

import (
	"errors"
	"math"
	"strings"
	"testing"

	"millwright/api"
	"millwright/lines"
	"millwright/stmt"
)

// P19.1, of lines with neither sign

func TestLinesWithNeitherSign(t *testing.T) {
	for _, text := range []string{"a", "a b", "word", "'a b'", "$x", "${x:a=b}", "`{a:b}", "''", "a 'b:c' d", "U", "V", "\\", "|", ">", "\x00", "\xff", "a<b", "# a", "a;b", "(", strings.Repeat("a ", 10000)} {
		wrong(t, text, api.ErrForm)
	}
	for text, want := range map[string]error{
		"'a":        api.ErrQuote,
		"a 'b":      api.ErrQuote,
		"'a: b = c": api.ErrQuote,
		"$":         api.ErrName,
		"a $ 'b":    api.ErrName,
		"$: a":      api.ErrName,
		"${}":       api.ErrName,
		"a ${b":     api.ErrForm,
		"`a":        api.ErrForm,
		"` = 'a":    api.ErrForm,
	} {
		wrong(t, text, want)
	}
	// No text gives these lines: they have bytes, but no words.
	for _, text := range []string{" ", "\t", "\n", " \t ", "\n\n", " \n\t"} {
		wrong(t, text, api.ErrForm)
	}
}

// P19.1, of empty lines

func TestEmptyLinesAreLeftOut(t *testing.T) {
	isParsed(t, nil)
	isParsed(t, []lines.Line{})
	isParsed(t, []lines.Line{{}})
	isParsed(t, []lines.Line{logical(1, ""), logical(2, ""), logical(3, "")})
	isParsed(t, []lines.Line{logical(1, ""), logical(2, "x = a"), logical(3, ""), logical(4, "<a"), logical(5, "")}, on(2, assign("x", row("a")...)), on(4, include(row("a")...)))
}

// P19.1, of recipe lines that belong to no rule

// noRules is lines of which none is a Rule's, nor its Recipe's, with the texts that give them.
func noRules() map[string][]lines.Line {
	return map[string][]lines.Line{
		"":                        nil,
		"x = a\n":                 {logical(1, "x = a")},
		"x =U= a\n":               {logical(1, "x =U= a")},
		"<a\n":                    {logical(1, "<a")},
		"<|a\n":                   {logical(1, "<|a")},
		"\n":                      {logical(1, "")},
		"# c\n":                   {logical(1, "")},
		"\t\n":                    {recipe(1, "")},
		"a: b\n\n":                {logical(1, "a: b"), logical(2, "")},
		"a: b\n\tmake\n\n":        {logical(1, "a: b"), recipe(2, "make"), logical(3, "")},
		"a: b\n\tmake\nx = a\n":   {logical(1, "a: b"), recipe(2, "make"), logical(3, "x = a")},
		"a: b\n\tmake\n<a\n":      {logical(1, "a: b"), recipe(2, "make"), logical(3, "<a")},
		"a: b\n\n\t\n":            {logical(1, "a: b"), logical(2, ""), recipe(3, "")},
		"x = a\n \t \n\t\n   \n":  {logical(1, "x = a"), recipe(2, "\t "), recipe(3, ""), recipe(4, "  ")},
		"<a\n\n\n":                {logical(1, "<a"), logical(2, ""), logical(3, "")},
		"x = a\ny = b\n<|c\n\t\n": {logical(1, "x = a"), logical(2, "y = b"), logical(3, "<|c"), recipe(4, "")},
	}
}

func TestRecipeLinesOfNoRule(t *testing.T) {
	for ahead, list := range noRules() {
		want, err := stmt.Parse(list)
		if err != nil {
			t.Fatalf("Parse(%s) has %v", shownLines(list), err)
		}
		n := len(list) + 1
		for _, blanks := range []string{"", " ", "\t", "   ", " \t \t", strings.Repeat("\t", 300)} {
			isParsed(t, append(list, recipe(n, blanks)), want...)
			isParsed(t, append(list, recipe(n, blanks), recipe(n+1, blanks)), want...)
			isParsed(t, append(list, recipe(n, blanks), logical(n+1, "z =")), append(want[:len(want):len(want)], on(n+1, assign("z")))...)
			isOf(t, ahead+"\t"+blanks+"\n", want...)
			isOf(t, ahead+" "+blanks, want...)
			isFault(t, append(list, recipe(n, blanks), recipe(n+1, "x")), n+1, api.ErrForm)
		}
		for _, text := range []string{"x", "  x", "\tx ", "a: b", "x = a", "<a", "#", "# c", "'", "$", "`", "\\", "\n", " \n", "\r", "\v", "\f", "\x00", "\xff", "\u00a0", strings.Repeat(" ", 300) + "x"} {
			isFault(t, append(list, recipe(n, text)), n, api.ErrForm)
			isFault(t, append(list, recipe(n, text), logical(n+1, "z =")), n, api.ErrForm)
			if !strings.Contains(text, "\n") {
				isWrongOf(t, ahead+"\t"+text, n, api.ErrForm)
				isWrongOf(t, ahead+" "+text+"\nz =\n", n, api.ErrForm)
			}
		}
	}
}

func TestRecipeLinesOfNoRuleOfEachByte(t *testing.T) {
	for b := range 256 {
		s := string([]byte{byte(b)})
		for _, text := range []string{s, " " + s, s + "\t", " " + s + " "} {
			for _, ahead := range []lines.Line{logical(1, ""), recipe(1, "\t")} {
				list := []lines.Line{ahead, recipe(2, text)}
				if s == " " || s == "\t" {
					isParsed(t, list)
				} else {
					isFault(t, list, 2, api.ErrForm)
				}
			}
			isParsed(t, []lines.Line{logical(1, "a:"), recipe(2, text)}, on(1, made(rule(row("a"), nil), text+"\n")))
		}
	}
}

// P19.1, of which line's fault comes first

// faults is lines that have an error, with that error.
func faults() map[string]error {
	return map[string]error{
		"<":                  api.ErrForm,
		"<|":                 api.ErrForm,
		"<$":                 api.ErrName,
		"x y = a":            api.ErrName,
		"x = `":              api.ErrForm,
		": a":                api.ErrForm,
		"a:V":                api.ErrAttr,
		"a:x: b":             api.ErrAttr,
		"a: ${":              api.ErrName,
		"word":               api.ErrForm,
		"$":                  api.ErrName,
		"a: 'b":              api.ErrQuote,
		"'a":                 api.ErrQuote,
		"a:P" + long() + ":": api.ErrLong,
	}
}

// long is a program of one byte more than it may have.
func long() string { return strings.Repeat("p", api.MaxWord+1) }

func TestTheFirstLinesFaultIsTold(t *testing.T) {
	for one, wantOne := range faults() {
		for other, wantOther := range faults() {
			isFault(t, []lines.Line{logical(1, one), logical(2, other)}, 1, wantOne)
			isFault(t, []lines.Line{logical(1, ""), logical(2, "x = a"), logical(3, one), logical(4, other)}, 3, wantOne)
			isFault(t, []lines.Line{logical(1, "a: b"), recipe(2, one), logical(3, other), logical(4, one)}, 3, wantOther)
			isFault(t, []lines.Line{recipe(1, one), logical(2, other)}, 1, api.ErrForm)
			isFault(t, []lines.Line{logical(1, one), recipe(2, other)}, 1, wantOne)
			// First is where a line stands in the list, whatever its number is.
			isFault(t, []lines.Line{logical(9, one), logical(2, other)}, 9, wantOne)
			isFault(t, []lines.Line{logical(-9, other), logical(-10, one)}, -9, wantOther)
			// A fault within a Recipe is none.
			isParsed(t, []lines.Line{logical(1, "a:"), recipe(2, one), recipe(3, other)}, on(1, made(rule(row("a"), nil), one+"\n"+other+"\n")))
		}
	}
}

func TestTheFirstLinesFaultOfATextIsTold(t *testing.T) {
	isWrongOf(t, "a: b\n\nword\n", 3, api.ErrForm)
	isWrongOf(t, "word\nx y = a\n", 1, api.ErrForm)
	isWrongOf(t, "x y = a\nword\n", 1, api.ErrName)
	isWrongOf(t, "x = a\\\nb\n\n$\n", 4, api.ErrName)
	isWrongOf(t, "x = a\n$ \\\n\\\nb\na:V\n", 2, api.ErrName)
	isWrongOf(t, "x = a\na:V \\\n\\\nb\nword\n", 2, api.ErrAttr)
	isWrongOf(t, "x = a # c\n\tmake\nword\n", 2, api.ErrForm)
	isWrongOf(t, "a: b\n\tmake\n\n\n<\n$\n", 5, api.ErrForm)
}

// Ahead of a fault, however much is right, nothing is answered beside it.
func TestNothingBesideAFault(t *testing.T) {
	var list []lines.Line
	for range 1000 {
		list = append(list, logical(len(list)+1, "x = a"), logical(len(list)+2, "a: b"), recipe(len(list)+3, "make"))
	}
	for text, want := range faults() {
		all := append(list[:len(list):len(list)], logical(77, text))
		isFault(t, all, 77, want)
		isFault(t, append(all, list...), 77, want)
	}
}

// A fault is the caller's: one that is written over is another one's no more.
func TestFaultsAreTheCallers(t *testing.T) {
	for text, want := range faults() {
		list := []lines.Line{logical(5, text)}
		_, first := stmt.Parse(list)
		_, second := stmt.Parse(list)
		var f *lines.Fault
		if !errors.As(first, &f) {
			t.Fatalf("Parse(%s) has %v", shown(text), first)
		}
		f.Line, f.Err = 99, api.ErrLost
		if bad := fault(second, 5, want); bad != "" {
			t.Errorf("behind a fault that was written over: %s", bad)
		}
		isFault(t, list, 5, want)
	}
}

// P19.1, of lines that no text gives

func TestLinesOfAnyNumber(t *testing.T) {
	numbers := []int{0, 1, 2, 7, -1, -7, 1 << 20, 1 << 40, math.MaxInt, math.MinInt}
	x, a := assign("x", row("a")...), rule(row("a"), row("b"))
	for _, i := range numbers {
		for _, k := range numbers {
			isParsed(t, []lines.Line{logical(i, "x = a"), logical(k, "a: b")}, on(i, x), on(k, a))
			isParsed(t, []lines.Line{logical(i, "a: b"), recipe(k, "make"), recipe(i, "run")}, on(i, made(a, "make\nrun\n")))
			isParsed(t, []lines.Line{logical(i, "<|a"), logical(i, ""), recipe(k, ""), logical(k, "<a")}, on(i, command("a")), on(k, include(row("a")...)))
			isFault(t, []lines.Line{logical(i, "x = a"), logical(k, "word")}, k, api.ErrForm)
			isFault(t, []lines.Line{logical(i, "x = a"), recipe(k, "make")}, k, api.ErrForm)
			isFault(t, []lines.Line{logical(i, "a: b"), recipe(k, "make"), logical(i, "x y = a")}, i, api.ErrName)
		}
	}
}

// A line feed parts words, and is a byte as others are elsewhere.
func TestTextsWithLineFeeds(t *testing.T) {
	gives(t, "x = a\nb", assign("x", row("a", "b")...))
	gives(t, "x =\na\n", assign("x", row("a")...))
	gives(t, "x =U= a\nb", hidden("x", row("a", "b")...))
	gives(t, "x = U\n= a", assign("x", row("U", "=", "a")...))
	wrong(t, "x\n= a", api.ErrName)
	wrong(t, "\nx = a", api.ErrName)
	gives(t, "a\nb: c\nd", rule(row("a", "b"), row("c", "d")))
	gives(t, "\na\n: b", rule(row("a"), row("b")))
	gives(t, "a: \nb", rule(row("a"), row("b")))
	gives(t, "'a\nb': c", rule(rows(word(quoted("a\nb"))), row("c")))
	gives(t, "`{a\nb}: c", rule(rows(word(back("a\nb"))), row("c")))
	wrong(t, "a:\nb", api.ErrAttr)
	wrong(t, "a:\n", api.ErrAttr)
	wrong(t, "a:\n: b", api.ErrAttr)
	wrong(t, "a:V\n: b", api.ErrAttr)
	gives(t, "a:P\n: b", with(rule(row("a"), row("b")), 0, "\n"))
	wrong(t, "\n: b", api.ErrForm)
	gives(t, "<a\nb", include(row("a", "b")...))
	gives(t, "<\na", include(row("a")...))
	wrong(t, "<\n", api.ErrForm)
	gives(t, "<|\na\n", command("\na\n"))
	gives(t, "<| \n ", command("\n"))
	wrong(t, "a\n<b", api.ErrForm)
	wrong(t, "word\nword", api.ErrForm)
	isParsed(t, []lines.Line{logical(1, "a:"), recipe(2, "x\ny"), recipe(3, "\n"), recipe(4, "z\n")}, on(1, made(rule(row("a"), nil), "x\ny\n\n\nz\n\n")))
}

// What Split would have left out, joined or refused stands for itself.
func TestTextsThatSplitDoesNotMake(t *testing.T) {
	gives(t, "a: b # c", rule(row("a"), row("b", "#", "c")))
	gives(t, "#a: b", rule(row("#a"), row("b")))
	gives(t, "x = a \\", assign("x", row("a", "\\")...))
	gives(t, " \tx = a\t ", assign("x", row("a")...))
	gives(t, " \ta: b\t ", rule(row("a"), row("b")))
	gives(t, "<a \t", include(row("a")...))
	great := strings.Repeat("a", 1<<20)
	gives(t, great+": "+great, rule(row(great), row(great)))
	gives(t, "x = "+great, assign("x", row(great)...))
	gives(t, "x ="+strings.Repeat("U", 1<<20)+"= a", hidden("x", row("a")...))
	gives(t, "a:"+strings.Repeat("V", 1<<20)+": b", with(rule(row("a"), row("b")), 128, ""))
	gives(t, "<'"+great+"'", include(word(quoted(great))))
	wrong(t, great, api.ErrForm)
	wrong(t, "a:P"+great+": b", api.ErrLong)
	wrong(t, great+" '", api.ErrQuote)
	isParsed(t, []lines.Line{logical(1, "a:"), recipe(2, great)}, on(1, made(rule(row("a"), nil), great+"\n")))
	isParsed(t, []lines.Line{recipe(1, strings.Repeat(" \t", 1<<20))})
}

func TestManyLines(t *testing.T) {
	const many = 1 << 16
	var list []lines.Line
	var want []stmt.Stmt
	for i := range many {
		list = append(list, logical(i, "x = a"), logical(i, ""), recipe(i, ""))
		want = append(want, on(i, assign("x", row("a")...)))
	}
	isParsed(t, list, want...)
	isFault(t, append(list, recipe(-1, "x")), -1, api.ErrForm)
}
