package subst_test

import (
	"slices"
	"strings"
	"testing"

	"millwright/api"
	"millwright/subst"
)

// P16.1, of Chosen and Others

// areParted wants which words of a list fit, and which don't.
func areParted(t *testing.T, list []string, pattern string, chosen, others []string) {
	t.Helper()
	was := slices.Clone(list)
	if got := subst.Chosen(list, pattern); !sameList(got, chosen) {
		t.Errorf("Chosen(%s) by %s is %s, not %s", told(was...), told(pattern), told(got...), told(chosen...))
	}
	if got := subst.Others(list, pattern); !sameList(got, others) {
		t.Errorf("Others(%s) by %s is %s, not %s", told(was...), told(pattern), told(got...), told(others...))
	}
	if !sameList(list, was) {
		t.Errorf("a list %s was changed to %s", told(was...), told(list...))
	}
}

// areAskedParts wants of a list what the document's words ask.
func areAskedParts(t *testing.T, list []string, pattern string) {
	t.Helper()
	chosen, others := parted(list, pattern)
	areParted(t, list, pattern, chosen, others)
}

func TestPartsOfNoWord(t *testing.T) {
	for _, pattern := range patterns() {
		areParted(t, nil, pattern, nil, nil)
		areParted(t, []string{}, pattern, nil, nil)
	}
}

func TestPartsOfAWord(t *testing.T) {
	fit := []struct{ w, pattern string }{
		{"", ""}, {"a", "a"}, {"x.c", "x.c"}, {"x.c", "%.c"}, {".c", "%.c"}, {"x.y.c", "%.c"}, {"d/x.c", "%.c"}, {"x.c", "&.c"}, {".c", "&.c"},
		{"d/x", "d/%"}, {"d/", "d/%"}, {"d/x", "d/&"}, {"d/x.c", "d/%.c"}, {"d/x.c", "d/&.c"}, {"", "%"}, {"", "&"}, {"x", "%"}, {"x", "&"},
		{"d/x.c", "%"}, {"%", "%"}, {"&", "%"}, {"%", "&"}, {"&", "&"}, {"%", "%%"}, {"x%", "%%"}, {"x&", "%&"}, {"x%", "&%"}, {"x&", "&&"},
		{"a1b%c", "a%b%c"}, {"a1b&c", "a&b&c"}, {"aa", "a%a"}, {"\xff\x00", "\xff%"}, {sized(5000), "%"}, {sized(5000), "&w"}, {sized(5000), sized(5000)},
	}
	for _, c := range fit {
		areParted(t, []string{c.w}, c.pattern, []string{c.w}, nil)
	}
	no := []struct{ w, pattern string }{
		{"", "a"}, {"a", ""}, {"a", "b"}, {"a", "A"}, {"x.h", "x.c"}, {"x.h", "%.c"}, {"c", "%.c"}, {"", "%.c"}, {"x.cc", "%.c"}, {"x.y.c", "&.c"},
		{"d/x.c", "&.c"}, {"e/x", "d/%"}, {"d", "d/%"}, {"d/x.y", "d/&"}, {"d/x.h", "d/%.c"}, {"e/x.c", "d/%.c"}, {".", "&"}, {"/", "&"}, {"x.c", "&"},
		{"", "%%"}, {"x", "%%"}, {"x&", "%%"}, {"x%", "%&"}, {"x.%", "&%"}, {"a1b1c", "a%b%c"}, {"a", "a%a"}, {"aba", "ab%ba"}, {"%.c", "x.c"},
		{sized(5000), sized(5001)}, {sized(5000), "%q"}, {sized(5000), sized(5001) + "%"}, {"." + sized(5000), "&"},
	}
	for _, c := range no {
		areParted(t, []string{c.w}, c.pattern, nil, []string{c.w})
	}
}

func TestPartsOfManyWords(t *testing.T) {
	cs, hs := []string{"z.c", "a.c", "m.c", "d/x.c"}, []string{"y.h", "b.h", "x"}
	areParted(t, cs, "%.c", cs, nil)
	areParted(t, hs, "%.c", nil, hs)
	areParted(t, []string{"z.c", "y.h", "a.c", "b.h", "m.c", "x", "d/x.c"}, "%.c", cs, hs)
	areParted(t, []string{"y.h", "z.c", "b.h", "a.c", "x", "m.c", "d/x.c"}, "%.c", cs, hs)
	areParted(t, slices.Concat(cs, hs), "%.c", cs, hs)
	areParted(t, slices.Concat(hs, cs), "%.c", cs, hs)
	areParted(t, []string{"x.c", "y.h"}, "&.c", []string{"x.c"}, []string{"y.h"})
	areParted(t, []string{"x.c", "d/x.c", "y.c", "x.y.c"}, "&.c", []string{"x.c", "y.c"}, []string{"d/x.c", "x.y.c"})
	areParted(t, []string{"x.c", "x.c", "y.h", "x.c", "y.h"}, "%.c", []string{"x.c", "x.c", "x.c"}, []string{"y.h", "y.h"})
	areParted(t, []string{"a", "b", "a", "c", "a"}, "a", []string{"a", "a", "a"}, []string{"b", "c"})
	areParted(t, []string{"", "a", ""}, "", []string{"", ""}, []string{"a"})
	areParted(t, []string{"", "a", ""}, "%", []string{"", "a", ""}, nil)
	areParted(t, []string{"", "a", ""}, "a%", []string{"a"}, []string{"", ""})
	areParted(t, []string{"x%", "x", "%", "x&"}, "%%", []string{"x%", "%"}, []string{"x", "x&"})
}

// Neither the words nor their count is bounded here.
func TestPartsAreNotBounded(t *testing.T) {
	long := sized(api.MaxWord + 1)
	areParted(t, []string{long, long + ".c"}, "%.c", []string{long + ".c"}, []string{long})
	both := slices.Repeat([]string{"x.c", "y.h"}, 1<<16)
	areParted(t, both, "%.c", slices.Repeat([]string{"x.c"}, 1<<16), slices.Repeat([]string{"y.h"}, 1<<16))
	areParted(t, both, "%", both, nil)
	areParted(t, both, "q", nil, both)
}

// A great pattern is not gone through once a word.
func TestPartsOfManyWordsByGreatPatterns(t *testing.T) {
	few, long := slices.Repeat([]string{"", "w", "ww"}, 1<<17), sized(1<<20)
	for _, pattern := range []string{long, long + "%", "&" + long, "w%" + long, strings.Repeat("%", 1<<20)} {
		areParted(t, few, pattern, nil, few)
	}
}

func TestPartsOfEveryByte(t *testing.T) {
	for b := range 256 {
		s := one(b)
		list := []string{s, s + s, "a" + s, s + "a", "a" + s + "c", "x", "", s + ".c"}
		for _, pattern := range []string{s, "%", "&", s + "%", "&" + s, "a%", "a&c", "a" + s + "c", "%.c", "&.c"} {
			areAskedParts(t, list, pattern)
		}
	}
}

func TestPartsOfManyKinds(t *testing.T) {
	twice := slices.Concat(words(), words())
	for _, pattern := range append(patterns(), texts("a%&.c", 4)...) {
		areAskedParts(t, words(), pattern)
		areAskedParts(t, twice, pattern)
	}
}

// P16.1, of Same

// isSame wants of two patterns whether putting leaves all as it is.
func isSame(t *testing.T, from, to string, want bool) {
	t.Helper()
	if subst.Same(from, to) != want {
		t.Errorf("Same(%s) is %v", told(from, to), !want)
	}
}

func TestSame(t *testing.T) {
	long := sized(5000)
	for _, pattern := range []string{"", "a", "x.c", "d/x.c", ".", "\x00", "\xff", "\u00e9", "*", "$x", "%", "&", "%.c", "&.c", "d/%", "d/&", "d/%.c", "d/&.c", "a%a", long, "%" + long, long + "&", long + "%" + long} {
		isSame(t, pattern, pattern, true)
		for _, other := range []string{"", "a", "q", "%", "&", "x.c", "%.o", "%%", "%&", pattern + "q", "q" + pattern, pattern + "%", "&" + pattern} {
			if other != pattern {
				isSame(t, pattern, other, false)
				isSame(t, other, pattern, false)
			}
		}
	}
}

func TestSameOfSeveralSigns(t *testing.T) {
	for _, pattern := range []string{"%%", "&&", "%&", "&%", "a%b%c", "a%b&c", "a&b%c", "a&b&c", "%.%", "%/%.c", "&.&", "%%%", "&&&", "%&%", "x%%", "%%x", "%" + sized(5000) + "%", "&" + sized(5000) + "%", strings.Repeat("%", 5000)} {
		isSame(t, pattern, pattern, false)
		isSame(t, pattern, "", false)
		isSame(t, "", pattern, false)
		isSame(t, pattern, "%", false)
		isSame(t, "&", pattern, false)
	}
}

// Patterns that aren't the same, though nothing they put changes: just the patterns tell.
func TestSameIsOfThePatternsAlone(t *testing.T) {
	isSame(t, "&", "%", false)
	isSame(t, "%", "&", false)
	isSame(t, "%.c", "&.c", false)
	isSame(t, "&.c", "%.c", false)
	isSame(t, "%/x&", "%/x&", false)
	isSame(t, "%.c", "%.C", false)
	isSame(t, "%.c", "%.c ", false)
}

func TestSameOfEveryByte(t *testing.T) {
	for b := range 256 {
		s := one(b)
		sign := isWild(byte(b))
		isSame(t, s, s, true)
		isSame(t, "a"+s+"c", "a"+s+"c", true)
		isSame(t, s+s, s+s, !sign)
		isSame(t, "%"+s, "%"+s, !sign)
		isSame(t, s+"&", s+"&", !sign)
		isSame(t, "%a"+s+"b", "%a"+s+"b", !sign)
		isSame(t, s, s+s, false)
		isSame(t, s, one(b^1), false)
		isSame(t, "a%"+s, "a%"+one(255-b), false)
	}
}

func TestSameOfAllShortPatterns(t *testing.T) {
	all := texts("a%&", 4)
	for _, from := range all {
		for _, to := range all {
			isSame(t, from, to, from == to && signsOf(from) <= 1)
		}
	}
}

func TestSameOfGreatPatterns(t *testing.T) {
	long := sized(1 << 22)
	isSame(t, long, long, true)
	isSame(t, long, long+"w", false)
	isSame(t, long+"%"+long, long+"%"+long, true)
	isSame(t, long+"%"+long, long+"&"+long, false)
	isSame(t, long+"%"+long+"&", long+"%"+long+"&", false)
}
