package quote_test

import (
	"errors"
	"slices"
	"strings"
	"testing"

	"millwright/api"
	"millwright/quote"
)

func isSplit(t *testing.T, s string, want ...string) {
	t.Helper()
	if got, err := quote.Split(s); err != nil || !same(got, want) {
		t.Fatalf("Split(%s) is %s (%v), not %s", told(s), told(got...), err, told(want...))
	}
}

func isNoSplit(t *testing.T, s string) {
	t.Helper()
	if got, err := quote.Split(s); !errors.Is(err, api.ErrQuote) || len(got) != 0 {
		t.Fatalf("Split(%s) is %s (%v)", told(s), told(got...), err)
	}
}

// P11.1, of Split

func TestSplitWithoutWords(t *testing.T) {
	for _, s := range []string{"", " ", "\t", "\n", "  ", " \t\n", "\n\n\t  \t"} {
		isSplit(t, s)
	}
}

func TestSplitAtBlanks(t *testing.T) {
	blanks := []string{" ", "\t", "\n", "  ", "\t\t", "\n\n", " \t", "\n ", " \t\n \n"}
	for _, b := range blanks {
		isSplit(t, "a", "a")
		isSplit(t, b+"a", "a")
		isSplit(t, "a"+b, "a")
		isSplit(t, b+"a"+b, "a")
		isSplit(t, "a"+b+"b", "a", "b")
		isSplit(t, b+"a"+b+"bc"+b+"d"+b, "a", "bc", "d")
		isSplit(t, b+"'a'"+b+"''"+b+"d"+b, "a", "", "d")
	}
	isSplit(t, "b a b\ta", "b", "a", "b", "a")
}

func TestSplitOfPartsInOneWord(t *testing.T) {
	isSplit(t, "'a'", "a")
	isSplit(t, "a'b'", "ab")
	isSplit(t, "'a'b", "ab")
	isSplit(t, "a'b'c", "abc")
	isSplit(t, "'a'b'c'", "abc")
	isSplit(t, "a'b c'd", "ab cd")
	isSplit(t, "a' 'b'\t'c'\n'd", "a b\tc\nd")
	isSplit(t, "a'b'c d'e'f'g'", "abc", "defg")
	isSplit(t, "'a' 'b'", "a", "b")
	isSplit(t, "'a' b 'c'd", "a", "b", "cd")
}

func TestSplitOfEmptyQuotedParts(t *testing.T) {
	isSplit(t, "''", "")
	isSplit(t, " '' ", "")
	isSplit(t, "'' ''", "", "")
	isSplit(t, "''\n''\t''", "", "", "")
	isSplit(t, "''a", "a")
	isSplit(t, "a''", "a")
	isSplit(t, "a''b", "ab")
	isSplit(t, "a''b''c", "abc")
	isSplit(t, "'' a ''", "", "a", "")
	isSplit(t, " 'it''s' a'b c'd ''", "it's", "ab cd", "")
}

func TestSplitOfQuotedBlanks(t *testing.T) {
	isSplit(t, "' '", " ")
	isSplit(t, "'\t'", "\t")
	isSplit(t, "'\n'", "\n")
	isSplit(t, "' \t\n'", " \t\n")
	isSplit(t, "' a '", " a ")
	isSplit(t, "a ' ' b", "a", " ", "b")
	isSplit(t, "'a  b' 'c\nd'", "a  b", "c\nd")
}

func TestSplitOfTwoQuotesForOne(t *testing.T) {
	isSplit(t, "''''", "'")
	isSplit(t, "''''''", "''")
	isSplit(t, "''''''''", "'''")
	isSplit(t, "'''a'", "'a")
	isSplit(t, "'a''b'", "a'b")
	isSplit(t, "'a'''", "a'")
	isSplit(t, "'''a'''", "'a'")
	isSplit(t, "'''''a'", "''a")
	isSplit(t, "'a''''b'", "a''b")
	isSplit(t, "'a'''''", "a''")
	isSplit(t, "'a''''''b'", "a'''b")
	isSplit(t, "'a''b''c'", "a'b'c")
	isSplit(t, "'''a''b'''", "'a'b'")
	isSplit(t, "' '' '", " ' ")
	isSplit(t, "'a''' ''''", "a'", "'")
	isSplit(t, "x'a''b'y", "xa'by")
	isSplit(t, "x''''y", "x'y")
	isSplit(t, "'a'b'c''d'", "abc'd")
}

func TestSplitOfQuotedPartsWithoutAnEnd(t *testing.T) {
	for _, s := range []string{
		"'", "'a", "' ", "'a ", "'a b", "'\n", " '", "\n'a",
		"'''", "'''''", "'''a", "'a''", "'a''b", "'a'''' ",
		"a'", "a'b", "a'b c", "a'b'c'", "''a'", "a'b'c'd",
		"'a''b'c'd''", "a'''", "'a'b'''",
		"a '", "a b 'c", "a 'b' 'c", "'a' 'b''", "a\n'b\nc", "'it''s' here '",
		"'a b' c'd e''", "'' '' '", "a b c d'",
	} {
		isNoSplit(t, s)
	}
}

func TestSplitTakesOtherSignsAsBytes(t *testing.T) {
	isSplit(t, "\"a b\"", "\"a", "b\"")
	isSplit(t, "`a b`", "`a", "b`")
	isSplit(t, "a\\ b", "a\\", "b")
	isSplit(t, "\\'a'", "\\a")
	isSplit(t, "'a\\'", "a\\")
	isSplit(t, "a # b", "a", "#", "b")
	isSplit(t, "'#' $x ${y:%=%}", "#", "$x", "${y:%=%}")
	isSplit(t, "a\rb\vc\fd", "a\rb\vc\fd")
	isSplit(t, "\u00a0 \u0085 \u2028", "\u00a0", "\u0085", "\u2028")
	isSplit(t, "\xa0'\xff\xfe'\x80", "\xa0\xff\xfe\x80")
}

func TestSplitOfEachByte(t *testing.T) {
	for b := range 256 {
		one := string([]byte{byte(b)})
		switch {
		case b == 39:
			isNoSplit(t, one)
			isNoSplit(t, "a"+one+"b")
			isNoSplit(t, "'"+one+"' c")
			isSplit(t, "'"+one+one+"'", one)
		case slices.Contains([]int{32, 9, 10}, b):
			isSplit(t, one)
			isSplit(t, "a"+one+"b", "a", "b")
			isSplit(t, "'a"+one+"b'"+one+"c", "a"+one+"b", "c")
		default:
			isSplit(t, one, one)
			isSplit(t, "a"+one+"b", "a"+one+"b")
			isSplit(t, "'a"+one+"b'"+one+" c", "a"+one+"b"+one, "c")
		}
	}
}

// split is the chapter's words on Split by rows of quotes: the first one of a row outside of quoted parts opens one; each two behind it stand for one, and one that is left over closes; no row of quotes ends a word.
func split(s string) (list []string, is bool) {
	open, begun, word := false, false, ""
	for s != "" {
		row := len(s) - len(strings.TrimLeft(s, "'"))
		if row == 0 {
			b := s[:1]
			s = s[1:]
			if open || !strings.Contains(" \t\n", b) {
				begun, word = true, word+b
			} else if begun {
				list, begun, word = append(list, word), false, ""
			}
			continue
		}
		s = s[row:]
		if !open {
			open, row = true, row-1
		}
		begun, word = true, word+strings.Repeat("'", row/2)
		if row%2 == 1 {
			open = false
		}
	}
	if open {
		return nil, false
	}
	if begun {
		list = append(list, word)
	}
	return list, true
}

func isSplitByRows(t *testing.T, s string) {
	t.Helper()
	if want, is := split(s); is {
		isSplit(t, s, want...)
	} else {
		isNoSplit(t, s)
	}
}

func TestSplitOfAllShortTexts(t *testing.T) {
	for _, s := range texts("a' ", 9) {
		isSplitByRows(t, s)
	}
	for _, s := range texts("'\t\n\\\xff", 6) {
		isSplitByRows(t, s)
	}
}

func TestSplitOfTextsWithoutAPlan(t *testing.T) {
	c := chance(5)
	for range 50000 {
		isSplitByRows(t, c.text(70))
	}
}

func TestSplitOfTextsOfEveryByte(t *testing.T) {
	all := everyByte()
	for at := range len(all) + 1 {
		isSplitByRows(t, all[at:]+all[:at])
		isSplitByRows(t, all[at:]+"'"+all[:at])
	}
}

// A part of a word, as it is written, and what it says.
type part struct{ written, says string }

// parts is parts of every kind: ones without quotes, and quoted ones.
func parts() (bare, quoted []part) {
	for _, s := range []string{"a", "b.c", "\\", "\"", "#$", "\x00", "\xff\xc3", "\r"} {
		bare = append(bare, part{s, s})
	}
	quoted = []part{{"''", ""}, {"'a'", "a"}, {"' '", " "}, {"'\t\n'", "\t\n"}, {"''''", "'"}, {"'a''b'", "a'b"}, {"'''a'", "'a"}, {"'a'''", "a'"}, {"''''''", "''"}, {"' '' '", " ' "}}
	return bare, quoted
}

// rows is all rows of up to three parts, no two quoted ones next to one another: these would be one with two quotes within.
func rows() []part {
	bare, quoted := parts()
	out := slices.Concat(bare, quoted)
	for _, b := range bare {
		for _, q := range quoted {
			out = append(out, part{b.written + q.written, b.says + q.says}, part{q.written + b.written, q.says + b.says})
			for _, r := range quoted {
				out = append(out, part{q.written + b.written + r.written, q.says + b.says + r.says})
			}
			for _, c := range bare {
				out = append(out, part{b.written + q.written + c.written, b.says + q.says + c.says})
			}
		}
	}
	return out
}

func TestSplitOfRowsOfParts(t *testing.T) {
	all := rows()
	c := chance(6)
	blanks := []string{" ", "\t", "\n", "  ", " \t\n"}
	for _, it := range all {
		isSplit(t, it.written, it.says)
		isSplit(t, " "+it.written+"\n", it.says)
		isNoSplit(t, it.written+" 'a")
		other, third := all[c.below(len(all))], all[c.below(len(all))]
		s := it.written + blanks[c.below(len(blanks))] + other.written + blanks[c.below(len(blanks))] + third.written
		isSplit(t, s, it.says, other.says, third.says)
		isNoSplit(t, s+" a'")
	}
}

func TestSplitOfGreatTexts(t *testing.T) {
	const many = 1 << 19
	isSplit(t, strings.Repeat(" \t\n", many))
	isSplit(t, strings.Repeat("a", many), strings.Repeat("a", many))
	isSplit(t, strings.Repeat("a ", many), slices.Repeat([]string{"a"}, many)...)
	isSplit(t, strings.Repeat("'' ", many), slices.Repeat([]string{""}, many)...)
	isSplit(t, strings.Repeat("''", many), strings.Repeat("'", many-1))
	isSplit(t, strings.Repeat("a' 'b", many), strings.Repeat("a b", many))
	isSplit(t, "'"+strings.Repeat("a''", many)+"'", strings.Repeat("a'", many))
	isNoSplit(t, "'"+strings.Repeat("''", many))
	isNoSplit(t, strings.Repeat("'a' ", many)+"'a")
}
