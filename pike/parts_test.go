package pike_test

import (
	"errors"
	"math"
	"regexp"
	"slices"
	"strings"
	"testing"

	"millwright/api"
	"millwright/pike"
	"millwright/prog"
	"millwright/rex"
)

// areParts holds Parts and Whole of an expression and a text against the parts that they should have, with bars between; behind them all parts are empty.
func areParts(t *testing.T, expression, s, want string) {
	t.Helper()
	list := append(strings.Split(want, "|"), slices.Repeat([]string{""}, 10)...)[:10]
	got, is, err := pike.Parts(expression, s)
	if err != nil || !is || !slices.Equal(got, list) {
		t.Errorf("Parts of %q and %s: %q, %t, %v, not %q", expression, toldText(s), got, is, err, list)
	}
	isWhole(t, expression, s, true)
	isPart0(t, expression, s)
}

// areNoParts asks for no match of an expression and a text.
func areNoParts(t *testing.T, expression, s string) {
	t.Helper()
	if got, is, err := pike.Parts(expression, s); err != nil || is || len(got) != 0 {
		t.Errorf("Parts of %q and %s: %q, %t, %v", expression, toldText(s), got, is, err)
	}
	isWhole(t, expression, s, false)
}

func isWhole(t *testing.T, expression, s string, want bool) {
	t.Helper()
	if is, err := pike.Whole(expression, s); err != nil || is != want {
		t.Errorf("Whole of %q and %s: %t, %v", expression, toldText(s), is, err)
	}
}

// isPart0 asks for P9.2 of an expression's match.
func isPart0(t *testing.T, expression, s string) {
	t.Helper()
	p, err := prog.Of(expression)
	kept, is := pike.Match(p, s)
	list, _, _ := pike.Parts(expression, s)
	if err != nil || !is || pike.Part(s, kept, 0) != s || len(list) != 10 || list[0] != s {
		t.Errorf("Part 0 of %q and %s isn't all of it: %v, %q", expression, toldText(s), kept, list)
	}
}

// areRefused holds an expression's error, and asks for nothing beside it.
func areRefused(t *testing.T, expression string, want error) {
	t.Helper()
	for _, s := range []string{"", "a", "ab", expression} {
		if is, err := pike.Whole(expression, s); is || !errors.Is(err, want) {
			t.Errorf("Whole of %q and %q: %t, %v, not %v", expression, s, is, err, want)
		}
		if list, is, err := pike.Parts(expression, s); len(list) != 0 || is || !errors.Is(err, want) {
			t.Errorf("Parts of %q and %q: %q, %t, %v, not %v", expression, s, list, is, err, want)
		}
	}
}

// P9.1 and P9.2: Whole and Parts

func TestTheExample(t *testing.T) {
	areParts(t, "(a*)b", "aab", "aab|aa")
}

func TestExpressions(t *testing.T) {
	for _, one := range []struct{ expression, are, arent string }{
		{"a", "a", ",b,aa,ab,ba"},
		{"ab", "ab", ",a,b,abb,aab"},
		{"a|b", "a,b", ",ab,c"},
		{"a|ab", "a,ab", ",b,abb"},
		{"ab|a", "a,ab", ",b,aba"},
		{"a|b|c", "a,b,c", ",d,abc"},
		{"a*", ",a,aaa", "b,ab,aab"},
		{"a+", "a,aaa", ",b,aab"},
		{"a?", ",a", "aa,b"},
		{"a|", ",a", "b,aa"},
		{"(ab)*c", "c,abc,ababc", "ac,abac,ab"},
		{"a.c", "abc,a.c,a\x00c,a\xffc", "a\nc,ac,abcd,abbc"},
		{"[a-c]+", "a,abc,cba", ",d,abcd"},
		{"[^a-c]+", "d,\n,\xff", ",a,da"},
		{"^a$", "a", ",aa"},
		{"a^b", "", ",ab,a^b"},
		{"a$b", "", ",ab,a$b"},
		{"(^|b)a", "a,ba", "aa,bba"},
		{"a($|b)", "a,ab", "aa,abb"},
		{"\\*\\.c", "*.c", ".c,xyc,\\*\\.c"},
		{".*\\.o", ".o,a.o,a.o.o", "o,a.c,a.oo"},
		{"(a*)*", ",a,aaa", "b,aab"},
		{"(a|b*)*c", "c,abbc,bac", ",ab,abd"},
	} {
		for _, s := range strings.Split(one.are, ",") {
			if one.are != "" {
				isWhole(t, one.expression, s, true)
				isPart0(t, one.expression, s)
			}
		}
		for _, s := range strings.Split(one.arent, ",") {
			areNoParts(t, one.expression, s)
		}
	}
}

func TestTheEmptyExpressionAndTheEmptyText(t *testing.T) {
	areParts(t, "", "", "")
	areNoParts(t, "", "a")
	areNoParts(t, "", "\x00")
	for _, expression := range []string{"", "a*", "a?", "|", "a|", "|a", "()", "(a|)", "^", "$", "^$", "$^", "(a*)*", "()*", "^*", "($)+"} {
		areParts(t, expression, "", "")
	}
	for _, expression := range []string{"a", "a+", ".", "[^a]", "a|b", "(a)", "^a", "\\\n"} {
		areNoParts(t, expression, "")
	}
}

func TestGroups(t *testing.T) {
	for _, one := range []struct{ expression, text, want string }{
		{"(a)", "a", "a|a"},
		{"(a)(b)", "ab", "ab|a|b"},
		{"(a(b)c)d", "abcd", "abcd|abc|b"},
		{"((a)b)(c)", "abc", "abc|ab|a|c"},
		{"(a*)(b|c)?", "aab", "aab|aa|b"},
		{"(.*)\\.(c|h)", "x.y.c", "x.y.c|x.y|c"},
		{"x(.*)y", "xaay", "xaay|aa"},
		// a group that takes as much as it may leaves nothing for the next one
		{"(a*)(a*)", "aaa", "aaa|aaa|"},
		{"(a*)(a+)", "aaa", "aaa|aa|a"},
		{"(a?)(a*)", "aaa", "aaa|a|aa"},
		{"(a+)(a?)a", "aaa", "aaa|aa|"},
		// the first branch that comes to a match
		{"(a|ab)(bc|c)", "abc", "abc|a|bc"},
		{"(ab|a)(bc|c)", "abc", "abc|ab|c"},
		{"(a|ab)(c|bcd)(d*)", "abcd", "abcd|a|bcd|"},
		{"(|a)(a|)", "a", "a||a"},
		{"(a|)(a|)", "a", "a|a|"},
		// groups that took no part
		{"(a)|(b)", "a", "a|a|"},
		{"(a)|(b)", "b", "b||b"},
		{"(a)?b", "b", "b|"},
		{"(a)*b", "b", "b|"},
		{"(a)?(b)", "b", "b||b"},
		{"(a)?(b)?(c)", "ac", "ac|a||c"},
		{"((a)|b)*", "", ""},
		// groups that took the empty text
		{"()a", "a", "a|"},
		{"(a*)b", "b", "b|"},
		{"(^)a($)", "a", "a||"},
		// groups that were gone through more than once
		{"(a|b)*", "abba", "abba|a"},
		{"(a|b)+", "ab", "ab|b"},
		{"((a)|(b))*", "ab", "ab|b|a|b"},
		{"((a)|(b))*", "ba", "ba|a|a|b"},
		{"((a)|b)+", "abb", "abb|b|a"},
		{"(a*b)*", "aabab", "aabab|ab"},
		{"(a*)*", "aa", "aa|aa"},
		{"(a*)+", "aa", "aa|aa"},
		{"(a|b*)*", "abb", "abb|bb"},
		{"(a*)*b", "b", "b|"},
		{"((a*)b)*", "aabb", "aabb|b|"},
		{"(x(a)?y)*", "xayxy", "xayxy|xy|a"},
		// bytes of every kind
		{"(.)(.)", "\x00\xff", "\x00\xff|\x00|\xff"},
		{"([^a]*)a(.*)", "\n\ra\\", "\n\ra\\|\n\r|\\"},
	} {
		areParts(t, one.expression, one.text, one.want)
	}
}

// kept is what Parts can't tell: a group that took the empty text from one that took no part.
func TestWhatWasKept(t *testing.T) {
	for _, one := range []tried{
		{"", "", "0:0 1:0"},
		{"()", "", "0:0 1:0 2:0 3:0"},
		{"a()", "a", "0:0 1:1 2:1 3:1"},
		{"(a)?", "", "0:0 1:0"},
		{"(a?)", "", "0:0 1:0 2:0 3:0"},
		{"(a)|b", "b", "0:0 1:1"},
		{"(a*)*", "", "0:0 1:0"},
		{"(a*)*", "aa", "0:0 1:2 2:0 3:2"},
		{"(a*)+", "", "0:0 1:0 2:0 3:0"},
		// The way that goes round once more, and takes the empty text, comes to where one has been at that place.
		{"(a*)+", "aa", "0:0 1:2 2:0 3:2"},
		{"(a|b*)*", "abb", "0:0 1:3 2:1 3:3"},
		{"((a)|b)*", "ab", "0:0 1:2 2:1 3:2 4:0 5:1"},
		{"(a)(b)(c)(d)(e)(f)(g)(h)(i)", "abcdefghi", "0:0 1:9 2:0 3:1 4:1 5:2 6:2 7:3 8:3 9:4 10:4 11:5 12:5 13:6 14:6 15:7 16:7 17:8 18:8 19:9"},
		{"((a))", "b", no},
	} {
		p, err := prog.Of(one.code)
		if err != nil {
			t.Fatal(err)
		}
		isMatch(t, p, one.text, one.want)
		if isOfTheWords(t, p, one.text) {
			isPart0(t, one.code, one.text)
		}
	}
}

func TestAsManyGroupsAsThereMayBe(t *testing.T) {
	areParts(t, "(a)(b)(c)(d)(e)(f)(g)(h)(i)", "abcdefghi", "abcdefghi|a|b|c|d|e|f|g|h|i")
	areParts(t, "(((((((((a)))))))))", "a", "a|a|a|a|a|a|a|a|a|a")
	areParts(t, "(((((((((a)b)c)d)e)f)g)h)i)", "abcdefghi", "abcdefghi|abcdefghi|abcdefgh|abcdefg|abcdef|abcde|abcd|abc|ab|a")
	areParts(t, "()()()()()()()()(.)", "a", "a|||||||||a")
	areParts(t, "(a)|(b)|(c)|(d)|(e)|(f)|(g)|(h)|(i)", "i", "i|||||||||i")
	areNoParts(t, "(a)(b)(c)(d)(e)(f)(g)(h)(i)", "abcdefghj")
	areRefused(t, "(a)(b)(c)(d)(e)(f)(g)(h)(i)(j)", api.ErrFull)
	areRefused(t, strings.Repeat("(", 10)+strings.Repeat(")", 10), api.ErrFull)
}

func TestErrors(t *testing.T) {
	areRefused(t, strings.Repeat("a", api.MaxRegex+1), api.ErrLong)
	areRefused(t, strings.Repeat("(", api.MaxRegex+1), api.ErrLong)
	areRefused(t, strings.Repeat("()", 31), api.ErrLong)
	for _, expression := range []string{"*", "+a", "?", "a|*", "(", "(a", ")", "a)", "[", "[]", "[^]", "[a", "[b-a]", "\\", "a\\", strings.Repeat("()", 29) + ")", strings.Repeat("(", api.MaxRegex)} {
		areRefused(t, expression, api.ErrRegex)
	}
	areRefused(t, strings.Repeat("()", 10), api.ErrFull)
	areRefused(t, strings.Repeat("()", 30), api.ErrFull)
	longest := strings.Repeat("a", api.MaxRegex)
	areParts(t, longest, longest, longest)
	areNoParts(t, longest, longest+"a")
}

func TestExpressionsThatDouble(t *testing.T) {
	text := strings.Repeat("a", 20000)
	nested := strings.Repeat("(", 9) + "a*" + strings.Repeat(")*", 9)
	for _, expression := range []string{"(a*)*", "(a+)+", nested, "(a|a)*", "(a|a|a|a|aa)*", "(a?a?a?a?a?a?a?a?)*", "((a|b*)*|(b|a*)*)*", "a*a*a*a*a*a*a*a*a*a*a*", "(a*)+$", "a" + strings.Repeat("*", 58)} {
		isWhole(t, expression, text, true)
		isPart0(t, expression, text)
		areNoParts(t, expression, text+"b"+text+"c")
		areNoParts(t, expression+"b", text)
	}
	half := strings.Repeat("a?", 20) + strings.Repeat("a", 20)
	isWhole(t, half, text[:20], true)
	isWhole(t, half, text[:40], true)
	isWhole(t, half, text[:19], false)
	isWhole(t, half, text[:41], false)
}

// P9.1: what Whole and Parts answer, held against what others know of expressions

// ends is the places to which a node spans a text from some places on, each a bit: no program is asked, and no way.
func ends(n rex.Node, s string, from uint64) uint64 {
	switch n.Kind {
	case rex.One:
		var to uint64
		for i := range len(s) {
			if from>>i&1 == 1 && n.Set.Has(s[i]) {
				to |= 2 << i
			}
		}
		return to
	case rex.Cat:
		for _, kid := range n.Kids {
			from = ends(kid, s, from)
		}
		return from
	case rex.Alt:
		var to uint64
		for _, kid := range n.Kids {
			to |= ends(kid, s, from)
		}
		return to
	case rex.Star:
		for {
			more := from | ends(n.Kids[0], s, from)
			if more == from {
				return from
			}
			from = more
		}
	case rex.Plus:
		return ends(rex.Node{Kind: rex.Star, Kids: n.Kids}, s, ends(n.Kids[0], s, from))
	case rex.Maybe:
		return from | ends(n.Kids[0], s, from)
	case rex.Group:
		return ends(n.Kids[0], s, from)
	case rex.Begin:
		return from & 1
	case rex.End:
		return from & (1 << len(s))
	}
	return from
}

// goesRoundEmpty tells whether a node has a star or a plus sign behind what may be empty, or behind a further sign: of these the library's expressions know otherwise, or nothing.
func goesRoundEmpty(n rex.Node) bool {
	if n.Kind == rex.Star || n.Kind == rex.Plus || n.Kind == rex.Maybe {
		kid := n.Kids[0]
		if kid.Kind == rex.Star || kid.Kind == rex.Plus || kid.Kind == rex.Maybe || ends(kid, "", 1) == 1 || ends(kid, "a", 1)&1 == 1 {
			return true
		}
	}
	return slices.ContainsFunc(n.Kids, goesRoundEmpty)
}

// inLibrary is what the library's expressions have of a text: the places by numbers, as many as there are.
func inLibrary(t *testing.T, expression, s string) []int {
	e, err := regexp.Compile("^(?:" + expression + ")$")
	if err != nil {
		t.Fatalf("%q: %v", expression, err)
	}
	return e.FindStringSubmatchIndex(s)
}

// expressionAndTexts holds an expression and texts against all that is known of them.
func expressionAndTexts(t *testing.T, expression string, n rex.Node, texts []string) {
	t.Helper()
	p, err := prog.Of(expression)
	if err != nil {
		t.Fatalf("%q: %v", expression, err)
	}
	library := !goesRoundEmpty(n)
	for _, s := range texts {
		is := ends(n, s, 1)>>len(s)&1 == 1
		isWhole(t, expression, s, is)
		if isOfTheWords(t, p, s) != is {
			t.Errorf("%q and %q by the words: not %t", expression, s, is)
		}
		if is {
			isPart0(t, expression, s)
		}
		if library {
			isAsInLibrary(t, expression, p, s)
		}
	}
}

func isAsInLibrary(t *testing.T, expression string, p []prog.Instr, s string) {
	t.Helper()
	want := inLibrary(t, expression, s)
	got, _ := pike.Match(p, s)
	if len(want) > 0 {
		want = append(want, slices.Repeat([]int{-1}, 20)...)[:20]
	}
	if !slices.Equal(got, want) {
		t.Errorf("%q and %q: %v, not %v, as the library has it", expression, s, got, want)
	}
}

// textsOf is all texts over a and b of so many bytes at most.
func textsOf(longest int) []string {
	out := []string{""}
	for i := 0; i < len(out); i++ {
		if len(out[i]) < longest {
			out = append(out, out[i]+"a", out[i]+"b")
		}
	}
	return out
}

func TestAllShortExpressions(t *testing.T) {
	texts, expressions := textsOf(3), 0
	var each func(s string, more int)
	each = func(s string, more int) {
		if n, err := rex.Parse(s); err == nil {
			expressions++
			expressionAndTexts(t, s, n, texts)
		} else {
			isWholeRefused(t, s, err)
		}
		for i := 0; i < 9 && more > 0; i++ {
			each(s+"ab()|*+?$"[i:i+1], more-1)
		}
	}
	each("", 4)
	if expressions < 1000 {
		t.Errorf("%d expressions alone", expressions)
	}
}

func isWholeRefused(t *testing.T, expression string, want error) {
	t.Helper()
	if is, err := pike.Whole(expression, "a"); is || !errors.Is(err, want) {
		t.Errorf("Whole of %q: %t, %v, not %v", expression, is, err, want)
	}
}

// expression writes an expression without a plan.
func (m *maker) expression(depth int) string {
	if depth == 0 {
		return []string{"a", "b", "a", "b", ".", "[ab]", "[^b]", "", "^", "$"}[m.below(10)]
	}
	part := func() string { return m.expression(depth - 1 - m.below(depth)) }
	switch m.below(6) {
	case 0:
		return part() + "|" + part()
	case 1:
		return "(" + part() + ")" + []string{"*", "+", "?", "**"}[m.below(4)]
	case 2, 3:
		return "(" + part() + ")"
	}
	return part() + part()
}

func TestExpressionsWithoutAPlan(t *testing.T) {
	m := &maker{state: 2463534242}
	texts, held := textsOf(4), 0
	for i := range 3000 {
		s := m.expression(2 + i%5)
		n, err := rex.Parse(s)
		if err != nil {
			continue
		}
		held++
		expressionAndTexts(t, s, n, texts)
	}
	if held < 2500 {
		t.Errorf("%d expressions alone", held)
	}
}

// P9.1: Part

func isPart(t *testing.T, s string, kept []int, i int, want string) {
	t.Helper()
	if got := pike.Part(s, kept, i); got != want {
		t.Errorf("Part %d of %q and %v: %q, not %q", i, s, kept, got, want)
	}
}

func TestPartOfEachNumber(t *testing.T) {
	const text = "abcdefghijklmnopqrstuvw"
	numbers := func(length int) []int {
		out := make([]int, length)
		for i := range out {
			out[i] = i
		}
		return out
	}
	for length := range 26 {
		for i := -1; i <= 10; i++ {
			want := ""
			if i >= 0 && 2*i+1 < length {
				want = text[2*i : 2*i+1]
			}
			isPart(t, text, numbers(length), i, want)
		}
		for _, i := range []int{math.MinInt, math.MinInt + 1, math.MinInt / 2, -2, 11, 256, 1 << 32, math.MaxInt / 2, math.MaxInt/2 + 1, math.MaxInt - 1, math.MaxInt, 1 << 62, 3 << 61} {
			want := ""
			if i == 11 && length > 23 {
				want = text[22:23]
			}
			isPart(t, text, numbers(length), i, want)
		}
	}
}

func TestPartOfRowsOfAnyLength(t *testing.T) {
	isPart(t, "abc", nil, 0, "")
	isPart(t, "abc", []int{}, 0, "")
	isPart(t, "abc", []int{1}, 0, "")
	isPart(t, "abc", []int{1, 3}, 0, "bc")
	isPart(t, "abc", []int{1, 3}, 1, "")
	isPart(t, "abc", []int{1, 3}, -1, "")
	isPart(t, "abc", []int{1, 3, 2}, 0, "bc")
	isPart(t, "abc", []int{1, 3, 2}, 1, "")
	isPart(t, "abc", []int{1, 3, 2, 3}, 1, "c")
	isPart(t, "abc", []int{1, 9}, 0, "")
	// The room behind a row is none of it.
	isPart(t, "abc", []int{1, 3, 2, 3}[:3], 1, "")
	isPart(t, "abc", []int{1, 3}[:1], 0, "")
	many := slices.Repeat([]int{0, 2}, 1000)
	isPart(t, "abc", many, 999, "ab")
	isPart(t, "abc", many, 1000, "")
}

func TestPartOfAllPlaces(t *testing.T) {
	for _, s := range []string{"", "a", "abc", "\x00\xffé\n"} {
		list := []int{math.MinInt, -2, -1, math.MaxInt, 1 << 32, 256}
		for place := range len(s) + 3 {
			list = append(list, place)
		}
		for _, from := range list {
			for _, to := range list {
				want := ""
				if from >= 0 && to <= len(s) && from < to {
					want = s[from:to]
				}
				isPart(t, s, []int{from, to}, 0, want)
				isPart(t, s, []int{-1, -1, from, to, 0}, 1, want)
				isPart(t, s, []int{from, from, to, to}, 0, "")
			}
		}
	}
}

// Rules for every call

func TestNoCallChangesWhatItIsGiven(t *testing.T) {
	for _, text := range []string{"save 0;split 2 4;byte a;jump 1;save 1;match", "split 9 9;byte a", "op 9 -1 -2;match", "byte a;save 2;split 1 0;match;jump 0"} {
		room := program(text)
		kept := slices.Clone(room)
		for length := range len(room) + 1 {
			for _, s := range []string{"", "a", "aab"} {
				pike.Match(room[:length], s)
				if !slices.Equal(room, kept) {
					t.Errorf("a program was changed: %v, not %v", room, kept)
				}
			}
		}
	}
	room := []int{0, 2, -1, 9, 1, 1, 7}
	kept := slices.Clone(room)
	for length := range len(room) + 1 {
		for i := -1; i <= 10; i++ {
			pike.Part("abc", room[:length], i)
			if !slices.Equal(room, kept) {
				t.Errorf("a row was changed: %v, not %v", room, kept)
			}
		}
	}
}

func TestAnswersAreTheCallers(t *testing.T) {
	for _, one := range []tried{{"(a*)b", "aab", ""}, {"", "", ""}, {"(a|b)*", "abba", ""}, {"(a)", "b", ""}} {
		p, _ := prog.Of(one.code)
		first, _ := pike.Match(p, one.text)
		second, _ := pike.Match(p, one.text)
		want, code := slices.Clone(second), slices.Clone(p)
		for i := range first[:cap(first)] {
			first[:cap(first)][i] = 77
		}
		third, _ := pike.Match(p, one.text)
		if !slices.Equal(second, want) || !slices.Equal(third, want) || !slices.Equal(p, code) {
			t.Errorf("matches of %q share their room, or aren't the same each time", one.code)
		}
		parts, _, _ := pike.Parts(one.code, one.text)
		again, _, _ := pike.Parts(one.code, one.text)
		whole := slices.Clone(again)
		for i := range parts[:cap(parts)] {
			parts[:cap(parts)][i] = "written over"
		}
		last, _, _ := pike.Parts(one.code, one.text)
		if !slices.Equal(again, whole) || !slices.Equal(last, whole) {
			t.Errorf("parts of %q share their room, or aren't the same each time", one.code)
		}
	}
}

func TestAProgramThatIsWrittenOverLeavesItsMatch(t *testing.T) {
	p, _ := prog.Of("(a*)b")
	kept, _ := pike.Match(p, "aab")
	want := slices.Clone(kept)
	for i := range p {
		p[i] = prog.Instr{Op: prog.Save, X: 5}
	}
	if pike.Match(p, "aab"); !slices.Equal(kept, want) {
		t.Errorf("a match was changed: %v, not %v", kept, want)
	}
}
