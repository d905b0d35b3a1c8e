package quote_test

import (
	"slices"
	"strings"
	"testing"

	"millwright/quote"
)

// P11.2

// comesBack tells that a list is split as it was joined.
func comesBack(t *testing.T, list []string) {
	t.Helper()
	joined := quote.Join(list)
	if got, err := quote.Split(joined); err != nil || !same(got, list) {
		t.Fatalf("%s is joined as %s, which is split as %s (%v)", told(list...), told(joined), told(got...), err)
	}
}

func TestJoinedListsComeBack(t *testing.T) {
	for _, list := range [][]string{
		nil,
		{},
		{""},
		{"", ""},
		{"", "", "", ""},
		{"a"},
		{"a", "b", "a"},
		{"", "a"},
		{"a", ""},
		{"a", "", "b"},
		{" "},
		{"\t"},
		{"\n"},
		{" ", "  ", "\t\n "},
		{"'"},
		{"''"},
		{"'''"},
		{"'", "''", "'''", "''''"},
		{"' '", "'a b'", "a' 'b"},
		{"it's", "here"},
		{"a b", "c'd", "", "e"},
		{"\\", "\\'", "'\\"},
		{"\xff", "\x00", "\u00e9 \u00e9"},
	} {
		comesBack(t, list)
	}
}

func TestTextsOfEachByteComeBack(t *testing.T) {
	var each []string
	for b := range 256 {
		one := string([]byte{byte(b)})
		each = append(each, one)
		comesBack(t, []string{one})
		comesBack(t, []string{one, one})
		comesBack(t, []string{"a" + one, one + "a", one + "'", " " + one, one + one})
	}
	comesBack(t, each)
	comesBack(t, []string{everyByte(), everyByte()})
}

func TestAllShortListsComeBack(t *testing.T) {
	short := texts("a' ", 3)
	for _, a := range short {
		comesBack(t, []string{a})
		for _, b := range short {
			comesBack(t, []string{a, b})
			for _, c := range short {
				comesBack(t, []string{a, b, c})
			}
		}
	}
	for _, s := range texts("a'\n\\\xff", 6) {
		comesBack(t, []string{s})
	}
}

func TestListsWithoutAPlanComeBack(t *testing.T) {
	c := chance(7)
	for range 10000 {
		var list []string
		for range c.below(12) {
			list = append(list, c.text(20))
		}
		comesBack(t, list)
	}
}

func TestGreatListsComeBack(t *testing.T) {
	const many = 1 << 16
	comesBack(t, slices.Repeat([]string{""}, many))
	comesBack(t, slices.Repeat([]string{"a", "b c", "'", "", "\n"}, many))
	comesBack(t, []string{strings.Repeat("'", many), strings.Repeat(" ", many), strings.Repeat(everyByte(), 256)})
}

// Plain texts are split by Fields as they are by Split.
func TestPlainListsComeBackByFields(t *testing.T) {
	c := chance(8)
	for range 5000 {
		var list []string
		for range c.below(8) {
			if s := c.text(10); quote.Plain(s) {
				list = append(list, s)
			}
		}
		comesBack(t, list)
		if got := quote.Fields(quote.Join(list)); !same(got, list) {
			t.Fatalf("the fields of Join(%q) are %q", list, got)
		}
	}
}
