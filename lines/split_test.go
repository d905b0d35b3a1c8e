package lines_test

import (
	"errors"
	"strings"
	"testing"

	"millwright/api"
	"millwright/lines"
)

func isSplit(t *testing.T, text string, want ...lines.Line) {
	t.Helper()
	if got, err := lines.Split(text); err != nil || !same(got, want) {
		t.Errorf("Split(%s) is %s (%v), not %s", shown(text), list(got), err, list(want))
	}
}

func isFault(t *testing.T, text string, line int, want error) {
	t.Helper()
	got, err := lines.Split(text)
	at, is := lines.Where(err)
	if !errors.Is(err, want) || !is || at != line || got != nil {
		t.Errorf("Split(%s) is %s (%v, %v), not a fault of line %d: %v", shown(text), list(got), err, errors.Unwrap(err), line, want)
	}
	var f *lines.Fault
	if !errors.As(err, &f) || f.Line != line || f.Err == nil || f.Err != want {
		t.Errorf("Split(%s) is no *Fault of line %d that wraps %v, but %v", shown(text), line, want, err)
	}
}

// P12.1, of Split

func TestSplitOfTheChaptersExample(t *testing.T) {
	isSplit(t, "a: b # c\n\tx", logical(1, "a: b"), recipe(2, "x"))
	isSplit(t, "a: b # c\n\tx\n", logical(1, "a: b"), recipe(2, "x"))
}

func TestSplitAtLineFeeds(t *testing.T) {
	isSplit(t, "")
	isSplit(t, "\n", logical(1, ""))
	isSplit(t, "\n\n", logical(1, ""), logical(2, ""))
	isSplit(t, "\n\n\n\n", logical(1, ""), logical(2, ""), logical(3, ""), logical(4, ""))
	isSplit(t, "a", logical(1, "a"))
	isSplit(t, "a\n", logical(1, "a"))
	isSplit(t, "a\n\n", logical(1, "a"), logical(2, ""))
	isSplit(t, "\na", logical(1, ""), logical(2, "a"))
	isSplit(t, "\na\n", logical(1, ""), logical(2, "a"))
	isSplit(t, "a\nb", logical(1, "a"), logical(2, "b"))
	isSplit(t, "a\nb\n", logical(1, "a"), logical(2, "b"))
	isSplit(t, "a\n\n\nb\n", logical(1, "a"), logical(2, ""), logical(3, ""), logical(4, "b"))
	isSplit(t, "\n\n\ta\n\n", logical(1, ""), logical(2, ""), recipe(3, "a"), logical(4, ""))
	isSplit(t, "a: b c\nd=e f\n<g h", logical(1, "a: b c"), logical(2, "d=e f"), logical(3, "<g h"))
}

func TestSplitOfRecipeLines(t *testing.T) {
	isSplit(t, " a", recipe(1, "a"))
	isSplit(t, "\ta", recipe(1, "a"))
	isSplit(t, " a\n", recipe(1, "a"))
	isSplit(t, "\ta\n", recipe(1, "a"))
	isSplit(t, "\ta\n b\n\tc", recipe(1, "a"), recipe(2, "b"), recipe(3, "c"))
	isSplit(t, "a\n\tb\nc\n d", logical(1, "a"), recipe(2, "b"), logical(3, "c"), recipe(4, "d"))
	isSplit(t, "a:\n\tb c  d\n", logical(1, "a:"), recipe(2, "b c  d"))
	// Nothing is behind that byte.
	isSplit(t, " ", recipe(1, ""))
	isSplit(t, "\t", recipe(1, ""))
	isSplit(t, " \n", recipe(1, ""))
	isSplit(t, "\t\n", recipe(1, ""))
	isSplit(t, "a\n \n\t\nb", logical(1, "a"), recipe(2, ""), recipe(3, ""), logical(4, "b"))
	isSplit(t, "\n\t", logical(1, ""), recipe(2, ""))
	// Just the first byte is left out.
	isSplit(t, "  ", recipe(1, " "))
	isSplit(t, "\t\t", recipe(1, "\t"))
	isSplit(t, " \t \n", recipe(1, "\t "))
	isSplit(t, "\t a \n", recipe(1, " a "))
	isSplit(t, "  \ta\t \t\n", recipe(1, " \ta\t \t"))
	isSplit(t, "a\n \tb ", logical(1, "a"), recipe(2, "\tb "))
	// Other bytes that are no blanks make none.
	isSplit(t, "\ra\n\va\n\fa\n\x00a\n\x85a\n\xa0a", logical(1, "\ra"), logical(2, "\va"), logical(3, "\fa"), logical(4, "\x00a"), logical(5, "\x85a"), logical(6, "\xa0a"))
}

func TestSplitOfSignsInRecipeLines(t *testing.T) {
	// Sharps.
	isSplit(t, "\t# a", recipe(1, "# a"))
	isSplit(t, "\ta # b\n", recipe(1, "a # b"))
	isSplit(t, " a#\n#\n #", recipe(1, "a#"), logical(2, ""), recipe(3, "#"))
	// Quotes, with and without an end.
	isSplit(t, "\t'a'\n", recipe(1, "'a'"))
	isSplit(t, "\tit's\n", recipe(1, "it's"))
	isSplit(t, "\t'", recipe(1, "'"))
	isSplit(t, " 'a\n 'b\n", recipe(1, "'a"), recipe(2, "'b"))
	isSplit(t, " '#\n'#'", recipe(1, "'#"), logical(2, "'#'"))
	isSplit(t, "\t'\\\n'a'", recipe(1, "'\\"), logical(2, "'a'"))
	// Backslashes: a recipe line never goes on.
	isSplit(t, "\ta\\\n", recipe(1, "a\\"))
	isSplit(t, "\ta\\\nb", recipe(1, "a\\"), logical(2, "b"))
	isSplit(t, "\ta\\\n\tb\\\n\tc", recipe(1, "a\\"), recipe(2, "b\\"), recipe(3, "c"))
	isSplit(t, "\t\\\n\\\nb", recipe(1, "\\"), logical(2, "b"))
	isSplit(t, " \\", recipe(1, "\\"))
	isSplit(t, " \\\\\n\n", recipe(1, "\\\\"), logical(2, ""))
	isSplit(t, "a\n\tb \\ c\n\td\\\ne", logical(1, "a"), recipe(2, "b \\ c"), recipe(3, "d\\"), logical(4, "e"))
}

func TestSplitOfBlanksAtBothEnds(t *testing.T) {
	isSplit(t, "a ", logical(1, "a"))
	isSplit(t, "a\t\n", logical(1, "a"))
	isSplit(t, "a \t \t\t  \nb", logical(1, "a"), logical(2, "b"))
	isSplit(t, "a b\tc \n", logical(1, "a b\tc"))
	isSplit(t, "a  b\t\tc", logical(1, "a  b\t\tc"))
	isSplit(t, "a\r\n", logical(1, "a\r"))
	isSplit(t, "a \r\n", logical(1, "a \r"))
	isSplit(t, "\va\v\n\fa\f", logical(1, "\va\v"), logical(2, "\fa\f"))
	isSplit(t, "\u00a0a\u00a0\n\u3000a\u2003", logical(1, "\u00a0a\u00a0"), logical(2, "\u3000a\u2003"))
	isSplit(t, "\x00a\x00 ", logical(1, "\x00a\x00"))
	// At the beginning they stand behind a backslash alone.
	isSplit(t, "\\\na", logical(1, "a"))
	isSplit(t, "\\\n \t a\t ", logical(1, "a"))
	isSplit(t, "\\\n\\\n\\\n\ta b", logical(1, "a b"))
	// Within quotes they stay.
	isSplit(t, "' a '", logical(1, "' a '"))
	isSplit(t, "' \t' \t", logical(1, "' \t'"))
	isSplit(t, "\\\n '\ta ' ", logical(1, "'\ta '"))
}

func TestSplitOfSharps(t *testing.T) {
	// At the beginning.
	isSplit(t, "#", logical(1, ""))
	isSplit(t, "#\n", logical(1, ""))
	isSplit(t, "# a\nb", logical(1, ""), logical(2, "b"))
	isSplit(t, "##\n# #", logical(1, ""), logical(2, ""))
	isSplit(t, "#\ta\n\tb", logical(1, ""), recipe(2, "b"))
	// In the middle.
	isSplit(t, "a # b", logical(1, "a"))
	isSplit(t, "a#b\nc", logical(1, "a"), logical(2, "c"))
	isSplit(t, "a b \t # c # d\n", logical(1, "a b"))
	isSplit(t, "a=b#c d\n", logical(1, "a=b"))
	isSplit(t, "a\\#b", logical(1, "a\\"))
	isSplit(t, "a \\ #b", logical(1, "a \\"))
	// At the end.
	isSplit(t, "a #", logical(1, "a"))
	isSplit(t, "a#\nb#\n", logical(1, "a"), logical(2, "b"))
	isSplit(t, "a##", logical(1, "a"))
	// Within quoted parts.
	isSplit(t, "'#'", logical(1, "'#'"))
	isSplit(t, "a '# b' c", logical(1, "a '# b' c"))
	isSplit(t, "'a''#'", logical(1, "'a''#'"))
	isSplit(t, "'#''#'", logical(1, "'#''#'"))
	isSplit(t, "\"#\"", logical(1, "\""))
	// Behind them.
	isSplit(t, "'a'#b", logical(1, "'a'"))
	isSplit(t, "'#' # '#'", logical(1, "'#'"))
	isSplit(t, "''#", logical(1, "''"))
	isSplit(t, "''''#'", logical(1, "''''"))
	isSplit(t, "'a' # it's", logical(1, "'a'"))
}

func TestSplitOfSignsBehindASharp(t *testing.T) {
	// Quotes mean nothing.
	isSplit(t, "# it's", logical(1, ""))
	isSplit(t, "#'\n'a'", logical(1, ""), logical(2, "'a'"))
	isSplit(t, "a # ' b '' c\nd", logical(1, "a"), logical(2, "d"))
	// A backslash neither.
	isSplit(t, "#\\\na", logical(1, ""), logical(2, "a"))
	isSplit(t, "a # b\\\nc", logical(1, "a"), logical(2, "c"))
	isSplit(t, "a # b\\\n\tc", logical(1, "a"), recipe(2, "c"))
	isSplit(t, "a#\\\\\n\n", logical(1, "a"), logical(2, ""))
	isSplit(t, "a # 'b\\\n'c'", logical(1, "a"), logical(2, "'c'"))
	isSplit(t, "#\\", logical(1, ""))
	isSplit(t, "#\\\n", logical(1, ""))
	// In a line that goes on from the one before, the logical line ends there.
	isSplit(t, "a \\\nb # c\\\nd", logical(1, "a  b"), logical(3, "d"))
	isSplit(t, "a\\\n#b\nc", logical(1, "a"), logical(3, "c"))
	isSplit(t, "a\\\n # b\n\tc", logical(1, "a"), recipe(3, "c"))
	isSplit(t, "\\\n#\n", logical(1, ""))
	isSplit(t, "a\\\nb\\\n#\\\nc", logical(1, "a b"), logical(4, "c"))
}

func TestSplitOfBackslashes(t *testing.T) {
	isSplit(t, "a\\\nb", logical(1, "a b"))
	isSplit(t, "a\\\nb\n", logical(1, "a b"))
	isSplit(t, "a: b \\\n c # d\n\tx\n\ny=1", logical(1, "a: b   c"), recipe(3, "x"), logical(4, ""), logical(5, "y=1"))
	// Of the last line they stay.
	isSplit(t, "\\", logical(1, "\\"))
	isSplit(t, "\\\n", logical(1, "\\"))
	isSplit(t, "a\\", logical(1, "a\\"))
	isSplit(t, "a\\\n", logical(1, "a\\"))
	isSplit(t, "a\nb \\\n", logical(1, "a"), logical(2, "b \\"))
	isSplit(t, "a\\\nb\\", logical(1, "a b\\"))
	isSplit(t, "a\\\nb\\\n", logical(1, "a b\\"))
	isSplit(t, "\\\n\\", logical(1, "\\"))
	isSplit(t, "\\\n\\\n", logical(1, "\\"))
	isSplit(t, "a\\\\\n", logical(1, "a\\\\"))
	// That are not the last byte, too.
	isSplit(t, "a\\b\n", logical(1, "a\\b"))
	isSplit(t, "\\a\nb", logical(1, "\\a"), logical(2, "b"))
	isSplit(t, "a\\ \nb", logical(1, "a\\"), logical(2, "b"))
	isSplit(t, "a\\\t\n\tb", logical(1, "a\\"), recipe(2, "b"))
	isSplit(t, "a\\\r\nb", logical(1, "a\\\r"), logical(2, "b"))
	// Several in a row: the last one alone is a blank.
	isSplit(t, "a\\\\\nb", logical(1, "a\\ b"))
	isSplit(t, "a\\\\\\\nb", logical(1, "a\\\\ b"))
	isSplit(t, "\\\\\\\\\nb", logical(1, "\\\\\\ b"))
	// Behind blanks.
	isSplit(t, "a \\\nb", logical(1, "a  b"))
	isSplit(t, "a\t\\\nb", logical(1, "a\t b"))
	isSplit(t, "a \t\\\n \tb", logical(1, "a \t  \tb"))
	// Within and behind quoted parts.
	isSplit(t, "'\\'\nb", logical(1, "'\\'"), logical(2, "b"))
	isSplit(t, "'\\'\\\nb", logical(1, "'\\' b"))
	isSplit(t, "'a\\'b'c'", logical(1, "'a\\'b'c'"))
	isSplit(t, "''\\\n''", logical(1, "'' ''"))
	isSplit(t, "'a'\\\n'b'", logical(1, "'a' 'b'"))
	isSplit(t, "\\'a'\nb", logical(1, "\\'a'"), logical(2, "b"))
}

func TestSplitOfWhatABackslashLeadsTo(t *testing.T) {
	// An empty line.
	isSplit(t, "a\\\n\nb", logical(1, "a"), logical(3, "b"))
	isSplit(t, "a\\\n\n", logical(1, "a"))
	isSplit(t, "\\\n\n", logical(1, ""))
	isSplit(t, "\\\n\n\n", logical(1, ""), logical(3, ""))
	isSplit(t, "a\\\n\n\tb", logical(1, "a"), recipe(3, "b"))
	// One that begins with a blank or a tab is no recipe line.
	isSplit(t, "a\\\n b", logical(1, "a  b"))
	isSplit(t, "a\\\n\tb", logical(1, "a \tb"))
	isSplit(t, "a\\\n\tb # c\n", logical(1, "a \tb"))
	isSplit(t, "a\\\n ", logical(1, "a"))
	isSplit(t, "a\\\n\t\n\tb", logical(1, "a"), recipe(3, "b"))
	isSplit(t, "a\\\n\tb\\\n\tc\n\td", logical(1, "a \tb \tc"), recipe(4, "d"))
	isSplit(t, "\\\n\ta", logical(1, "a"))
	// A sharp.
	isSplit(t, "a\\\n#b\\\nc", logical(1, "a"), logical(3, "c"))
	// A quote.
	isSplit(t, "a\\\n'b'", logical(1, "a 'b'"))
	isSplit(t, "a\\\n'# b' # c", logical(1, "a '# b'"))
	isSplit(t, "a\\\n''\\\nb", logical(1, "a '' b"))
	// A backslash.
	isSplit(t, "a\\\n\\\nb", logical(1, "a  b"))
	isSplit(t, "a\\\n\\b\n", logical(1, "a \\b"))
}

func TestSplitNumbersLinesByTheirFirstPhysicalOne(t *testing.T) {
	isSplit(t, "a\\\nb\nc", logical(1, "a b"), logical(3, "c"))
	isSplit(t, "\n\na\\\nb\\\nc\n\td\ne\\\nf\ng", logical(1, ""), logical(2, ""), logical(3, "a b c"), recipe(6, "d"), logical(7, "e f"), logical(9, "g"))
	many := strings.Repeat("a\\\n", 100)
	isSplit(t, many+"b\nc\n\td", logical(1, strings.Repeat("a ", 100)+"b"), logical(102, "c"), recipe(103, "d"))
	isSplit(t, "x\n"+many+"b\n\tc", logical(1, "x"), logical(2, strings.Repeat("a ", 100)+"b"), recipe(103, "c"))
	// To the last one.
	isSplit(t, "x\n"+many, logical(1, "x"), logical(2, strings.Repeat("a ", 99)+"a\\"))
	blanks := strings.Repeat("\\\n", 1000)
	isSplit(t, blanks+"\n", logical(1, ""))
	isSplit(t, blanks+"\n\ta", logical(1, ""), recipe(1002, "a"))
}

func TestSplitOfQuotedParts(t *testing.T) {
	isSplit(t, "''", logical(1, "''"))
	isSplit(t, "a '' b\n''", logical(1, "a '' b"), logical(2, "''"))
	isSplit(t, "'a b'\n", logical(1, "'a b'"))
	isSplit(t, "a'b'c", logical(1, "a'b'c"))
	isSplit(t, "'a' 'b'  'c'", logical(1, "'a' 'b'  'c'"))
	isSplit(t, "'it''s'\nb", logical(1, "'it''s'"), logical(2, "b"))
	isSplit(t, "''''\n''''''", logical(1, "''''"), logical(2, "''''''"))
	isSplit(t, "'a'\n'b'", logical(1, "'a'"), logical(2, "'b'"))
	isSplit(t, "''\n''", logical(1, "''"), logical(2, "''"))
	isSplit(t, "\"\n`", logical(1, "\""), logical(2, "`"))
}

func TestSplitOfQuotedPartsWithoutAnEnd(t *testing.T) {
	// In the first line.
	isFault(t, "'", 1, api.ErrQuote)
	isFault(t, "'\n", 1, api.ErrQuote)
	isFault(t, "a 'b", 1, api.ErrQuote)
	isFault(t, "it's\n", 1, api.ErrQuote)
	isFault(t, "'''", 1, api.ErrQuote)
	isFault(t, "'a''\n", 1, api.ErrQuote)
	isFault(t, "'a' 'b", 1, api.ErrQuote)
	isFault(t, "'# a", 1, api.ErrQuote)
	isFault(t, "a\\'b", 1, api.ErrQuote)
	// Neither a line feed, nor what is behind it, ends it.
	isFault(t, "'a\nb'", 1, api.ErrQuote)
	isFault(t, "'\n'", 1, api.ErrQuote)
	isFault(t, "'''\n'", 1, api.ErrQuote)
	isFault(t, "'a\\\nb'", 1, api.ErrQuote)
	isFault(t, "'\\\n'", 1, api.ErrQuote)
	isFault(t, "a 'b\\", 1, api.ErrQuote)
	// In a later one.
	isFault(t, "a\nb 'c\n", 2, api.ErrQuote)
	isFault(t, "a\n\n\n'", 4, api.ErrQuote)
	isFault(t, "\t'\n 'a\nb'\nc", 3, api.ErrQuote)
	isFault(t, "# '\n'", 2, api.ErrQuote)
	isFault(t, "a\\\nb\nc'", 3, api.ErrQuote)
	isFault(t, "''\n'a'\n'a''\n'", 3, api.ErrQuote)
	// In a line that goes on from the one before: the number is that line's own.
	isFault(t, "a\\\n'b", 2, api.ErrQuote)
	isFault(t, "a\\\n\t'b\n'", 2, api.ErrQuote)
	isFault(t, "x\na\\\nb\\\nc\\\nit's\nd", 5, api.ErrQuote)
	isFault(t, "'a'\\\n''\\\n'", 3, api.ErrQuote)
	isFault(t, "a\\\n'b\\\nc'", 2, api.ErrQuote)
	isFault(t, strings.Repeat("\\\n", 1000)+"'", 1001, api.ErrQuote)
}

func TestSplitOfLongTexts(t *testing.T) {
	full := strings.Repeat(pad(79)+"\n", api.MaxText/80)
	if len(full) != api.MaxText {
		t.Fatalf("the text has %d bytes", len(full))
	}
	var want []lines.Line
	for i := range api.MaxText / 80 {
		want = append(want, logical(i+1, pad(79)))
	}
	isSplit(t, full, want...)
	isSplit(t, full[:api.MaxText-1], want...)
	isFault(t, full+"\n", 0, api.ErrLong)
	isFault(t, full+"a", 0, api.ErrLong)
	isFault(t, full+"'", 0, api.ErrLong)
	// Without a line that has a text.
	feeds := strings.Repeat("\n", api.MaxText)
	if got, err := lines.Split(feeds); err != nil || len(got) != api.MaxText || got[api.MaxText-1] != logical(api.MaxText, "") {
		t.Errorf("Split of %d line feeds is %s (%v)", api.MaxText, list(got), err)
	}
	isFault(t, feeds+"\n", 0, api.ErrLong)
	isSplit(t, "#"+pad(api.MaxText-1), logical(1, ""))
	isFault(t, "#"+pad(api.MaxText), 0, api.ErrLong)
	isSplit(t, "a"+strings.Repeat(" ", api.MaxText-1), logical(1, "a"))
	isFault(t, "a"+strings.Repeat(" ", api.MaxText), 0, api.ErrLong)
	// It is looked for ahead of every line.
	isFault(t, "'\n"+pad(api.MaxText), 0, api.ErrLong)
	isFault(t, pad(api.MaxText+1), 0, api.ErrLong)
	isFault(t, strings.Repeat("'", api.MaxText+1), 0, api.ErrLong)
	isFault(t, pad(1<<22), 0, api.ErrLong)
	isFault(t, pad(api.MaxText), 1, api.ErrLong)
}

func TestSplitOfLongLines(t *testing.T) {
	full := pad(api.MaxLine)
	isSplit(t, full, logical(1, full))
	isSplit(t, full+"\n\n", logical(1, full), logical(2, ""))
	isFault(t, full+"a", 1, api.ErrLong)
	isFault(t, "\n\n"+full+"a\n", 3, api.ErrLong)
	isFault(t, pad(api.MaxText-1)+"\n", 1, api.ErrLong)
	// Recipe lines, whose first byte isn't their text's, but whose blanks are.
	isSplit(t, "\t"+full, recipe(1, full))
	isSplit(t, " "+full+"\na", recipe(1, full), logical(2, "a"))
	isFault(t, "\t"+full+"a", 1, api.ErrLong)
	isFault(t, "a\n "+full+"a\n", 2, api.ErrLong)
	isFault(t, "\t"+full+" ", 1, api.ErrLong)
	isFault(t, "\t "+full, 1, api.ErrLong)
	isFault(t, "\t# "+full, 1, api.ErrLong)
	isSplit(t, strings.Repeat(" ", api.MaxLine+1), recipe(1, strings.Repeat(" ", api.MaxLine)))
	isFault(t, strings.Repeat(" ", api.MaxLine+2), 1, api.ErrLong)
	// Longer ones, of which no more than MaxLine bytes are left.
	isSplit(t, full+" ", logical(1, full))
	isSplit(t, full+strings.Repeat("\t ", 500)+"\nb", logical(1, full), logical(2, "b"))
	isSplit(t, full+"# a", logical(1, full))
	isSplit(t, full+" \t# "+pad(3000), logical(1, full))
	isFault(t, full+"a#", 1, api.ErrLong)
	isFault(t, full+" a # b", 1, api.ErrLong)
	isSplit(t, full[1:]+"\\ ", logical(1, full[1:]+"\\"))
	isFault(t, full+"\\ ", 1, api.ErrLong)
	isSplit(t, "#"+pad(1000)+"\n"+full, logical(1, ""), logical(2, full))
	// Quotes are counted as they stand.
	quoted := "'" + strings.Repeat("''", api.MaxLine/2-1) + "'"
	isSplit(t, quoted, logical(1, quoted))
	isFault(t, "a"+quoted, 1, api.ErrLong)
	isFault(t, quoted+"''", 1, api.ErrLong)
	isFault(t, quoted+quoted, 1, api.ErrLong)
}

func TestSplitOfLongLinesThatGoOn(t *testing.T) {
	half := pad(api.MaxLine / 2)
	isSplit(t, half+"\\\n"+half[1:], logical(1, half+" "+half[1:]))
	isFault(t, half+"\\\n"+half, 1, api.ErrLong)
	isFault(t, "x\n\ty\n"+half+"\\\n"+half+"\nz", 3, api.ErrLong)
	isFault(t, half+"\\\n"+half[2:]+"\\\nb", 1, api.ErrLong)
	isSplit(t, half+"\\\n"+half[2:]+"\\\n", logical(1, half+" "+half[2:]+"\\"))
	isFault(t, half+"\\\n"+half[1:]+"\\\n", 1, api.ErrLong)
	// What is left out at the ends counts nothing.
	isSplit(t, "\\\n\\\n "+pad(api.MaxLine)+" \\\n\\\n\t# c", logical(1, pad(api.MaxLine)))
	isSplit(t, strings.Repeat("\\\n", 1000)+pad(api.MaxLine)+"\nb", logical(1, pad(api.MaxLine)), logical(1002, "b"))
	isFault(t, strings.Repeat("\\\n", 1000)+pad(api.MaxLine+1)+"\nb", 1, api.ErrLong)
	isFault(t, "a"+strings.Repeat("\\\n", api.MaxLine)+"b", 1, api.ErrLong)
	isSplit(t, "a"+strings.Repeat("\\\n", api.MaxLine-2)+"b", logical(1, "a"+strings.Repeat(" ", api.MaxLine-2)+"b"))
}

func TestSplitTellsTheFirstFault(t *testing.T) {
	long := pad(api.MaxLine + 1)
	isFault(t, "'\n'", 1, api.ErrQuote)
	isFault(t, "a\n'b\n'c\n", 2, api.ErrQuote)
	isFault(t, long+"\n"+long, 1, api.ErrLong)
	isFault(t, "'\n"+long, 1, api.ErrQuote)
	isFault(t, long+"\n'", 1, api.ErrLong)
	isFault(t, "a\n\t"+long+"\n'", 2, api.ErrLong)
	isFault(t, "a\n'\n\t"+long, 2, api.ErrQuote)
	// Of one logical line its quotes are looked at first.
	isFault(t, long+"'", 1, api.ErrQuote)
	isFault(t, "'"+long, 1, api.ErrQuote)
	isFault(t, long+"\\\n'", 2, api.ErrQuote)
	isFault(t, "x\n"+long+"\\\nb\\\nc'\n'", 4, api.ErrQuote)
	isFault(t, "x\n"+long+"\\\nb\\\nc\n'", 2, api.ErrLong)
	isFault(t, long+" # '", 1, api.ErrLong)
	isFault(t, "\t"+long+"'", 1, api.ErrLong)
}

func TestSplitOfEachByte(t *testing.T) {
	for b := range 256 {
		one := string([]byte{byte(b)})
		switch b {
		case '\n', ' ', '\t', '#', '\'', '\\':
			continue
		}
		isSplit(t, one, logical(1, one))
		isSplit(t, one+"\n"+one+one, logical(1, one), logical(2, one+one))
		isSplit(t, "a"+one+"b \n"+one+" ", logical(1, "a"+one+"b"), logical(2, one))
		isSplit(t, "\t"+one+"\n "+one+" ", recipe(1, one), recipe(2, one+" "))
		isSplit(t, "'"+one+"'#"+one, logical(1, "'"+one+"'"))
		isSplit(t, one+"\\\n"+one+"\n"+one, logical(1, one+" "+one), logical(3, one))
	}
}
