package denote_test

import (
	"fmt"
	"math"
	"slices"
	"strconv"
	"strings"
	"testing"

	"millwright/class"
	"millwright/denote"
	"millwright/prog"
	"millwright/rex"
)

// Nodes as the tests write them down.

var (
	empty = node(rex.Empty)
	begin = node(rex.Begin)
	end   = node(rex.End)
	never = node(rex.One)
	any1  = rex.Node{Kind: rex.One, Set: class.All()}
	a     = set('a')
	b     = set('b')
)

func node(kind int, kids ...rex.Node) rex.Node { return rex.Node{Kind: kind, Kids: kids} }

func set(list ...byte) rex.Node { return rex.Node{Kind: rex.One, Set: class.Of(list...)} }

func cat(kids ...rex.Node) rex.Node { return node(rex.Cat, kids...) }

func alt(kids ...rex.Node) rex.Node { return node(rex.Alt, kids...) }

func star(kid rex.Node) rex.Node { return node(rex.Star, kid) }

func plus(kid rex.Node) rex.Node { return node(rex.Plus, kid) }

func maybe(kid rex.Node) rex.Node { return node(rex.Maybe, kid) }

func group(index int, kid rex.Node) rex.Node {
	return rex.Node{Kind: rex.Group, Index: index, Kids: []rex.Node{kid}}
}

// times is as many nodes as asked.
func times(many int, n rex.Node) []rex.Node { return slices.Repeat([]rex.Node{n}, many) }

func parsed(t *testing.T, s string) rex.Node {
	t.Helper()
	n, err := rex.Parse(s)
	if err != nil {
		t.Fatalf("%q: %v", s, err)
	}
	return n
}

// told is a node as a text, if it isn't too great to be read.
func told(n rex.Node) string {
	if size := rex.Size(n); size > 100 {
		return fmt.Sprintf("a node of kind %d with %d nodes in it", n.Kind, size)
	}
	out := rex.Word(n.Kind)
	if out == "" {
		out = strconv.Itoa(n.Kind)
	}
	if n.Index != 0 {
		out += strconv.Itoa(n.Index)
	}
	if count := n.Set.Count(); count > 128 {
		out += fmt.Sprintf("[^%q]", n.Set.Not().Bytes())
	} else if count > 0 || n.Kind == rex.One {
		out += fmt.Sprintf("[%q]", n.Set.Bytes())
	}
	var kids []string
	for _, kid := range n.Kids {
		kids = append(kids, told(kid))
	}
	return out + "(" + strings.Join(kids, " ") + ")"
}

// toldText is a text, if it isn't too long to be read.
func toldText(s string) string {
	if len(s) > 100 {
		return fmt.Sprintf("a text of %d bytes", len(s))
	}
	return strconv.Quote(s)
}

// denoted is a node, a text, and the places to which the one spans the other from each place on: the rows of these places with semicolons between.
type denoted struct {
	n          rex.Node
	text, ends string
}

// rowsOf is the rows of places that a text tells.
func rowsOf(text string) [][]int {
	var rows [][]int
	for _, line := range strings.Split(text, ";") {
		var row []int
		for _, word := range strings.Fields(line) {
			place, _ := strconv.Atoi(word)
			row = append(row, place)
		}
		rows = append(rows, row)
	}
	return rows
}

func areDenoted(t *testing.T, list []denoted) {
	t.Helper()
	for _, one := range list {
		isDenoted(t, one.n, one.text, rowsOf(one.ends))
	}
}

// areDenotedOf does so for expressions.
func areDenotedOf(t *testing.T, list []struct{ expression, text, ends string }) {
	t.Helper()
	for _, one := range list {
		isDenoted(t, parsed(t, one.expression), one.text, rowsOf(one.ends))
	}
}

// isDenoted holds all calls but First against the rows of places that a node has in a text, by the places from which it spans.
func isDenoted(t *testing.T, n rex.Node, s string, rows [][]int) {
	t.Helper()
	if len(rows) != len(s)+1 {
		t.Fatalf("%d rows are asked for in %s", len(rows), toldText(s))
	}
	for from, row := range rows {
		areEnds(t, n, s, from, row)
		for to := -1; to <= len(s)+1; to++ {
			isSpanned(t, n, s, from, to, slices.Contains(row, to))
		}
	}
	for _, from := range beyond(s) {
		areEnds(t, n, s, from, nil)
		for to := -1; to <= len(s)+1; to++ {
			isSpanned(t, n, s, from, to, false)
		}
	}
	isIn(t, n, s, slices.Contains(rows[0], len(s)))
	if s == "" {
		isEmpty(t, n, slices.Contains(rows[0], 0))
	}
}

// beyond is numbers that are no places of a text.
func beyond(s string) []int {
	return []int{math.MinInt, -1 << 32, -2, -1, len(s) + 1, len(s) + 2, 1 << 32, math.MaxInt}
}

func areEnds(t *testing.T, n rex.Node, s string, from int, want []int) {
	t.Helper()
	if got := denote.Ends(n, s, from); !slices.Equal(got, want) {
		t.Errorf("Ends of %s in %s from %d on: %v, not %v", told(n), toldText(s), from, got, want)
	}
}

func isSpanned(t *testing.T, n rex.Node, s string, from, to int, want bool) {
	t.Helper()
	if denote.Spans(n, s, from, to) != want {
		t.Errorf("Spans of %s in %s from %d to %d isn't %t", told(n), toldText(s), from, to, want)
	}
}

// isIn asks, too, that In is Spans of the whole text.
func isIn(t *testing.T, n rex.Node, s string, want bool) {
	t.Helper()
	if is, spans := denote.In(n, s), denote.Spans(n, s, 0, len(s)); is != want || spans != want {
		t.Errorf("%s and %s: In is %t, Spans of the whole is %t, not %t", told(n), toldText(s), is, spans, want)
	}
}

// isEmpty asks, too, that Empty is In and Spans of the empty text.
func isEmpty(t *testing.T, n rex.Node, want bool) {
	t.Helper()
	if is := denote.Empty(n); is != want || denote.In(n, "") != want || denote.Spans(n, "", 0, 0) != want {
		t.Errorf("%s: Empty is %t, In and Spans of the empty text are %t, %t, not %t", told(n), is, denote.In(n, ""), denote.Spans(n, "", 0, 0), want)
	}
}

// P10.1: Ends, Spans, In and Empty of each kind

func TestTheExample(t *testing.T) {
	areEnds(t, parsed(t, "a*"), "aab", 0, []int{0, 1, 2})
}

func TestEachKind(t *testing.T) {
	areDenoted(t, []denoted{
		{empty, "ab", "0;1;2"},
		{a, "aba", "1;;3;"},
		{set('a', 'b'), "abc", "1;2;;"},
		{cat(a, b), "abab", "2;;4;;"},
		{alt(a, b), "abc", "1;2;;"},
		{star(a), "aaba", "0 1 2;1 2;2;3 4;4"},
		{plus(a), "aaba", "1 2;2;;4;"},
		{maybe(a), "aaba", "0 1;1 2;2;3 4;4"},
		{group(1, a), "aba", "1;;3;"},
		{begin, "ab", "0;;"},
		{end, "ab", ";;2"},
	})
}

func TestTheEmptyText(t *testing.T) {
	for _, n := range []rex.Node{empty, begin, end, star(a), maybe(a), star(never), cat(begin, end), cat(end, begin), cat(empty, star(a)), alt(a, empty), alt(empty, a), alt(begin, a), plus(empty), plus(star(a)), plus(begin), star(begin), plus(end), star(end), maybe(end), group(9, empty), group(1, maybe(a)), cat(maybe(a), star(b), plus(end))} {
		isDenoted(t, n, "", [][]int{{0}})
	}
	for _, n := range []rex.Node{a, never, any1, cat(a, empty), cat(empty, a), alt(a, b), plus(a), plus(never), group(1, a), cat(begin, a, end), plus(cat(star(a), b)), cat(maybe(a), b, maybe(a))} {
		isDenoted(t, n, "", [][]int{nil})
	}
}

func TestSetsOfAllBytes(t *testing.T) {
	all := class.All().Bytes()
	for at, it := range all {
		isSpanned(t, set(it), string(all), at, at+1, true)
		isSpanned(t, any1, string(all), at, at+1, true)
		isSpanned(t, never, string(all), at, at+1, false)
		isSpanned(t, rex.Node{Kind: rex.One, Set: class.Of(it).Not()}, string(all), at, at+1, false)
		isSpanned(t, star(rex.Node{Kind: rex.One, Set: class.Of(it).Not()}), string(all), 0, at, true)
		isSpanned(t, star(rex.Node{Kind: rex.One, Set: class.Of(it).Not()}), string(all), 0, at+1, false)
		for other, b := range all {
			isIn(t, set(it), string([]byte{b}), other == at)
		}
	}
	isIn(t, star(any1), string(all), true)
	isIn(t, cat(times(256, any1)...), string(all), true)
	isIn(t, rex.Literal(string(all)), string(all), true)
	isIn(t, cat(times(255, any1)...), string(all), false)
	// A place is that of a byte, not of a rune.
	areDenoted(t, []denoted{
		{any1, "é\xff", "1;2;3;"},
		{star(any1), "é\xff", "0 1 2 3;1 2 3;2 3;3"},
		{cat(set(0xc3), set(0xa9)), "éé", "2;;4;;"},
		{never, "a\x00\xff", ";;;"},
		{any1, "a\x00\xff", "1;2;3;"},
		{set(0), "a\x00\xff", ";2;;"},
		{set(255), "a\x00\xff", ";;3;"},
		{parsed(t, "."), "a\n\x00", "1;;3;"},
	})
}

func TestCats(t *testing.T) {
	one2 := alt(a, cat(a, a))
	areDenoted(t, []denoted{
		{cat(a, a), "aaa", "2;3;;"},
		{cat(empty, empty), "a", "0;1"},
		{cat(a, never), "aa", ";;"},
		{cat(never, a), "aa", ";;"},
		{cat(a, b, a), "aba", "3;;;"},
		{cat(a, b, a), "abb", ";;;"},
		{cat(star(a), star(b)), "aab", "0 1 2 3;1 2 3;2 3;3"},
		// The first kid's first choice, and its last one, go on to nothing.
		{cat(star(a), a), "aaa", "1 2 3;2 3;3;"},
		{cat(star(a), a, a), "aaa", "2 3;3;;"},
		{cat(maybe(a), a), "a", "1;"},
		{cat(one2, b), "aab", "3;3;;"},
		{cat(alt(cat(a, a), a), b), "aab", "3;3;;"},
		{cat(alt(a, cat(a, b)), alt(cat(b, b), b)), "abb", "2 3;;;"},
		{cat(one2, one2), "aaaa", "2 3 4;3 4;4;;"},
		{cat(one2, one2, one2), "aaaa", "3 4;4;;;"},
		{cat(one2, b, one2), "aabaa", "4 5;4 5;;;;"},
		{cat(star(any1), b, star(any1)), "aba", "2 3;2 3;;"},
		{cat(plus(a), plus(a), plus(a), plus(a)), "aaaaa", "4 5;5;;;;"},
	})
	many := cat(times(20, maybe(a))...)
	s := strings.Repeat("a", 25)
	areEnds(t, many, s, 0, rowsOf("0 1 2 3 4 5 6 7 8 9 10 11 12 13 14 15 16 17 18 19 20")[0])
	areEnds(t, many, s, 22, []int{22, 23, 24, 25})
	areEnds(t, cat(append(times(20, maybe(a)), times(20, a)...)...), s, 0, []int{20, 21, 22, 23, 24, 25})
	areEnds(t, cat(append(times(20, star(a)), b)...), s+"b"+s, 3, []int{26})
}

func TestAlts(t *testing.T) {
	areDenoted(t, []denoted{
		{alt(a, cat(a, a)), "aaa", "1 2;2 3;3;"},
		{alt(cat(a, a), a), "aaa", "1 2;2 3;3;"},
		{alt(cat(a, b), a), "ab", "1 2;;"},
		{alt(never, a), "a", "1;"},
		{alt(a, never), "a", "1;"},
		{alt(never, never), "a", ";"},
		{alt(empty, a), "a", "0 1;1"},
		{alt(a, empty), "a", "0 1;1"},
		{alt(begin, end), "ab", "0;;2"},
		{alt(a, b, set('c'), cat(a, b, set('c'))), "abc", "1 3;2;3;"},
		// kids that span the same parts
		{alt(a, a), "aa", "1;2;"},
		{alt(a, any1), "ab", "1;2;"},
		{alt(star(a), star(a)), "aa", "0 1 2;1 2;2"},
		{alt(star(a), plus(a), maybe(a), a, cat(a, a)), "aa", "0 1 2;1 2;2"},
		{alt(empty, empty), "a", "0;1"},
		{alt(empty, begin, end), "a", "0;1"},
		{cat(alt(a, a), alt(b, b)), "ab", "2;;"},
		{cat(alt(a, empty), alt(empty, a)), "aa", "0 1 2;1 2;2"},
		{star(alt(a, a, cat(a, a))), "aaa", "0 1 2 3;1 2 3;2 3;3"},
	})
	var kids []rex.Node
	for length := 2; length < 40; length++ {
		kids = append(kids, cat(times(length, a)...))
	}
	slices.Reverse(kids)
	areEnds(t, alt(kids...), "aaaaaa", 1, []int{3, 4, 5, 6})
	areEnds(t, alt(kids...), strings.Repeat("a", 38), 36, []int{38})
	areEnds(t, cat(alt(kids...), b), strings.Repeat("a", 10)+"b", 7, []int{11})
}

func TestStarsPlusesAndMaybes(t *testing.T) {
	whole, none := "0 1 2;1 2;2", ";;"
	list := []denoted{
		// of what may be empty
		{star(empty), "aa", "0;1;2"},
		{plus(empty), "aa", "0;1;2"},
		{maybe(empty), "aa", "0;1;2"},
		{star(alt(empty, a)), "aa", whole},
		{star(alt(a, empty)), "aa", whole},
		{plus(alt(empty, a)), "aa", whole},
		{plus(alt(a, empty)), "aa", whole},
		{maybe(alt(empty, a)), "aa", "0 1;1 2;2"},
		{star(cat(star(a), star(b))), "ab", whole},
		{plus(cat(star(b), star(a))), "ab", whole},
		{maybe(cat(star(b), star(a))), "ab", "0 1;1 2;2"},
		{star(cat(maybe(a), maybe(b))), "ba", whole},
		// of what can't be empty
		{star(cat(a, b)), "abab", "0 2 4;1;2 4;3;4"},
		{plus(cat(a, b)), "abab", "2 4;;4;;"},
		{maybe(cat(a, b)), "abab", "0 2;1;2 4;3;4"},
		{star(plus(a)), "aa", whole},
		// of what can't be at all
		{star(never), "aa", "0;1;2"},
		{plus(never), "aa", none},
		{maybe(never), "aa", "0;1;2"},
		{star(cat(a, never)), "aa", "0;1;2"},
		{plus(cat(a, never)), "aa", none},
		// a kid that spans several parts, of which the first choice goes on to nothing
		{star(alt(cat(a, a), cat(a, a, a))), "aaaaa", "0 2 3 4 5;1 3 4 5;2 4 5;3 5;4;5"},
		{plus(alt(cat(a, a, a), cat(a, a))), "aaaaa", "2 3 4 5;3 4 5;4 5;5;;"},
		{cat(star(alt(a, cat(a, b))), b), "aabb", "3 4;3 4;3;4;"},
		{cat(maybe(cat(a, a)), a, a), "aaa", "2;3;;"},
		{cat(plus(a), a), "aaa", "2 3;3;;"},
		{star(cat(a, star(b))), "abba", "0 1 2 3 4;1;2;3 4;4"},
	}
	for _, outer := range []func(rex.Node) rex.Node{star, plus, maybe} {
		list = append(list, denoted{outer(star(a)), "aa", whole}, denoted{star(outer(a)), "aa", whole}, denoted{outer(star(plus(maybe(a)))), "aa", whole}, denoted{outer(outer(outer(star(outer(a))))), "aa", whole})
	}
	list = append(list,
		denoted{plus(plus(a)), "aa", "1 2;2;"},
		denoted{plus(maybe(a)), "aa", whole},
		denoted{maybe(plus(a)), "aa", whole},
		denoted{maybe(maybe(a)), "aa", "0 1;1 2;2"},
	)
	areDenoted(t, list)
}

func TestManyTimesRound(t *testing.T) {
	s := strings.Repeat("ab", 500)
	var even []int
	for place := 0; place <= len(s); place += 2 {
		even = append(even, place)
	}
	areEnds(t, star(cat(a, b)), s, 0, even)
	areEnds(t, plus(cat(a, b)), s, 0, even[1:])
	areEnds(t, star(cat(a, b)), s, 600, even[300:])
	areEnds(t, star(cat(a, b)), s, 1, []int{1})
	areEnds(t, plus(cat(a, b)), s, 1, nil)
	areEnds(t, cat(star(cat(a, b)), a, a), s, 0, nil)
	areEnds(t, cat(star(cat(a, b)), end), s, 0, []int{1000})
	areEnds(t, cat(plus(alt(a, b)), plus(alt(a, b)), end), s, 998, []int{1000})
	isIn(t, plus(alt(cat(a, b, a, b), cat(a, b))), s, true)
	isIn(t, plus(alt(cat(a, b, a, b), cat(a, b))), s+"a", false)
	isIn(t, star(cat(plus(a), plus(b))), s, true)
	isIn(t, star(cat(plus(a), plus(b))), s[1:], false)
}

func TestBeginAndEnd(t *testing.T) {
	areDenoted(t, []denoted{
		{begin, "", "0"},
		{end, "", "0"},
		{begin, "abc", "0;;;"},
		{end, "abc", ";;;3"},
		{cat(begin, end), "", "0"},
		{cat(begin, end), "a", ";"},
		{cat(end, begin), "", "0"},
		{cat(end, begin), "a", ";"},
		{cat(begin, begin, a), "aa", "1;;"},
		{cat(a, begin), "aa", ";;"},
		{cat(a, end, end), "aa", ";2;"},
		{cat(end, a), "aa", ";;"},
		{cat(star(a), begin), "aa", "0;;"},
		{cat(star(a), end), "aa", "2;2;2"},
		{cat(end, star(a)), "aa", ";;2"},
		{cat(begin, star(a)), "aa", "0 1 2;;"},
		// within a star, a plus and a maybe
		{star(begin), "aa", "0;1;2"},
		{star(end), "aa", "0;1;2"},
		{plus(begin), "aa", "0;;"},
		{plus(end), "aa", ";;2"},
		{maybe(begin), "aa", "0;1;2"},
		{maybe(end), "aa", "0;1;2"},
		{star(cat(begin, a)), "aa", "0 1;1;2"},
		{plus(cat(begin, a)), "aa", "1;;"},
		{star(cat(a, end)), "aa", "0;1 2;2"},
		{plus(cat(a, end)), "aa", ";2;"},
		{star(cat(maybe(begin), a)), "aaa", "0 1 2 3;1 2 3;2 3;3"},
		{star(cat(a, maybe(end))), "aaa", "0 1 2 3;1 2 3;2 3;3"},
		{star(alt(begin, b)), "bb", "0 1 2;1 2;2"},
		{plus(alt(begin, b)), "bb", "0 1 2;2;"},
		{plus(alt(b, end)), "bb", "1 2;2;2"},
		{plus(cat(alt(begin, b), a)), "aba", "1 3;3;;"},
		{plus(cat(a, alt(end, b))), "aba", "2 3;;3;"},
		{star(star(begin)), "a", "0;1"},
		{plus(plus(end)), "a", ";1"},
		{star(begin), "", "0"},
		{plus(begin), "", "0"},
		{star(end), "", "0"},
		{plus(end), "", "0"},
		{plus(cat(begin, end)), "", "0"},
		{plus(cat(end, begin)), "a", ";"},
		{cat(plus(begin), plus(end)), "", "0"},
		{cat(plus(begin), plus(end)), "a", ";"},
	})
}

func TestGroups(t *testing.T) {
	for index := 1; index <= 9; index++ {
		g := func(n rex.Node) rex.Node { return group(index, n) }
		areDenoted(t, []denoted{
			{g(empty), "a", "0;1"},
			{g(a), "aa", "1;2;"},
			{g(never), "aa", ";;"},
			{g(begin), "aa", "0;;"},
			{g(end), "aa", ";;2"},
			{g(g(a)), "aa", "1;2;"},
			{cat(g(a), b), "ab", "2;;"},
			{cat(g(star(a)), g(a)), "aa", "1 2;2;"},
			{alt(g(a), g(cat(a, a))), "aa", "1 2;2;"},
			{star(g(a)), "aa", "0 1 2;1 2;2"},
			{plus(g(alt(a, empty))), "aa", "0 1 2;1 2;2"},
			{maybe(g(cat(a, a))), "aa", "0 2;1;2"},
			{g(star(g(cat(a, g(maybe(b)))))), "aba", "0 1 2 3;1;2 3;3"},
			{g(cat(g(begin), g(star(a)), g(end))), "aa", "2;;"},
		})
	}
}

func TestParsedNodes(t *testing.T) {
	areDenotedOf(t, []struct{ expression, text, ends string }{
		{"", "a", "0;1"},
		{"a", "aa", "1;2;"},
		{"ab", "xab", ";3;;"},
		{"(ab)*", "ababa", "0 2 4;1;2 4;3;4;5"},
		{"a|ab|abc", "abc", "1 2 3;;;"},
		{"(a|ab)(c|bcd)", "abcd", "3 4;;;;"},
		{"a+b?", "aab", "1 2 3;2 3;;"},
		{".*\\.o", "a.o.o", "3 5;3 5;5;5;;"},
		{"[^.]*[.][ch]", "x.y.h", ";;5;5;;"},
		{"^a|b$", "ab", "1;2;"},
		{"^*a$?", "aa", "1;2;"},
		{"(^a|b)+", "abb", "1 2 3;2 3;3;"},
		{"(a*)*", "aab", "0 1 2;1 2;2;3"},
		{"(a|b*)*c", "abbc", "4;4;4;4;"},
		{"()", "a", "0;1"},
		{"(|a)(|b)", "ab", "0 1 2;1 2;2"},
		{"[^\x00-\xff]", "a", ";"},
		{"[^\x00-\xff]*", "a", "0;1"},
		{"[\x00-\xff]+", "a\n", "1 2;2;"},
		{"a**", "aa", "0 1 2;1 2;2"},
		{"a+?", "aa", "0 1 2;1 2;2"},
		{"a?+", "aa", "0 1 2;1 2;2"},
	})
}

// No expression has these among its nodes.
func TestNodesThatAreMadeByHand(t *testing.T) {
	areDenoted(t, []denoted{
		{cat(cat(a, b), cat(a, b)), "abab", "4;;;;"},
		{cat(a, cat(b, cat(a, b))), "abab", "4;;;;"},
		{alt(alt(a, b), alt(cat(a, b), empty)), "ab", "0 1 2;1 2;2"},
		{cat(a, empty, b), "ab", "2;;"},
		{star(cat(a, b)), "abab", "0 2 4;1;2 4;3;4"},
		{star(alt(a, b)), "ab", "0 1 2;1 2;2"},
		{cat(alt(a, empty), alt(b, empty)), "ab", "0 1 2;1 2;2"},
		{cat(group(1, a), group(1, b)), "ab", "2;;"},
		{cat(group(9, a), group(2, group(9, b))), "ab", "2;;"},
		{star(empty), "a", "0;1"},
		{rex.Node{Kids: []rex.Node{}}, "a", "0;1"},
		{rex.Node{Kind: rex.One, Set: class.Of('a'), Kids: []rex.Node{}}, "a", "1;"},
		{rex.Literal("ab"), "ab", "2;;"},
		{rex.Literal(""), "ab", "0;1;2"},
	})
}

func TestPlacesThatArentOfTheText(t *testing.T) {
	for _, s := range []string{"", "a", "aab", "\xff\x00\n"} {
		for _, n := range []rex.Node{empty, star(any1), begin, end, maybe(a), star(begin), alt(end, begin, any1)} {
			places := beyond(s)
			for place := range len(s) + 1 {
				places = append(places, place)
			}
			for _, from := range places {
				is := from >= 0 && from <= len(s)
				if got := denote.Ends(n, s, from); !is && len(got) > 0 {
					t.Errorf("Ends of %s in %q from %d on: %v", told(n), s, from, got)
				}
				for _, to := range places {
					want := is && to >= 0 && to <= len(s) && slices.Contains(denote.Ends(n, s, from), to)
					isSpanned(t, n, s, from, to, want)
					if to < from && denote.Spans(n, s, from, to) {
						t.Errorf("%s spans %q from %d back to %d", told(n), s, from, to)
					}
				}
			}
		}
	}
	isSpanned(t, star(any1), "aab", 0, 3, true)
	isSpanned(t, star(any1), "aab", 0, 4, false)
	isSpanned(t, star(any1), "aab", -1, 3, false)
	isSpanned(t, star(any1), "aab", 3, 3, true)
	isSpanned(t, star(any1), "aab", 4, 4, false)
	isSpanned(t, empty, "aab", -1, -1, false)
	isSpanned(t, star(any1), "aab", 2, 1, false)
}

// P10.1: nodes that aren't right

// wrongNodes is nodes that aren't right, of each way in which a node may be so.
func wrongNodes() []rex.Node {
	var list []rex.Node
	for _, kind := range []int{math.MinInt, -256, -2, -1, rex.End + 1, rex.End + 2, 256, 257, 1 << 32, math.MaxInt} {
		list = append(list, node(kind), node(kind, a), node(kind, a, b))
	}
	for _, kind := range []int{rex.Empty, rex.One, rex.Begin, rex.End} {
		list = append(list, node(kind, empty), node(kind, a, b), node(kind, times(3, empty)...))
	}
	for _, kind := range []int{rex.Cat, rex.Alt} {
		list = append(list, node(kind), node(kind, empty), node(kind, a))
	}
	for _, kind := range []int{rex.Star, rex.Plus, rex.Maybe} {
		list = append(list, node(kind), node(kind, a, a), node(kind, empty, b, a))
	}
	list = append(list, rex.Node{Kind: rex.Group, Index: 1}, rex.Node{Kind: rex.Group, Index: 1, Kids: times(2, a)})
	for _, index := range []int{math.MinInt, -9, -1, 0, 10, 11, 256 + 1, 1<<32 + 1, math.MaxInt} {
		list = append(list, group(index, a), group(index, empty))
	}
	for _, n := range rightNodes() {
		for _, index := range []int{math.MinInt, -1, 1, 9, 10, math.MaxInt} {
			if n.Index = index; n.Kind != rex.Group {
				list = append(list, n)
			}
		}
	}
	for _, n := range rightNodes() {
		for _, s := range []class.Set{class.All(), class.Of('a'), class.Of(0), class.Of(64), class.Of(128), class.Of(255)} {
			if n.Set = s; n.Kind != rex.One {
				list = append(list, n)
			}
		}
	}
	return list
}

// rightNodes is one of each kind.
func rightNodes() []rex.Node {
	return []rex.Node{empty, a, cat(a, b), alt(a, b), star(a), plus(a), maybe(a), group(1, a), begin, end}
}

// holders is nodes that have a node in them, that are right if it is, and span and skip something by themselves where they may.
func holders(n rex.Node) []rex.Node {
	return []rex.Node{
		cat(n, a), cat(a, n), cat(a, n, b), cat(empty, star(a), n), alt(n, a), alt(a, n), alt(empty, n, b),
		star(n), plus(n), maybe(n), group(1, n), alt(empty, cat(star(a), n)), cat(maybe(n), star(a)),
	}
}

// isNothing asks for what every call answers of a node that isn't right.
func isNothing(t *testing.T, n rex.Node) {
	t.Helper()
	for _, s := range []string{"", "a", "ab"} {
		for from := -1; from <= len(s)+1; from++ {
			areEnds(t, n, s, from, nil)
			for to := -1; to <= len(s)+1; to++ {
				isSpanned(t, n, s, from, to, false)
			}
		}
		isIn(t, n, s, false)
	}
	isEmpty(t, n, false)
	if got := denote.First(n); !got.Empty() {
		t.Errorf("First of %s: %q", told(n), got.Bytes())
	}
}

func TestNodesThatArentRight(t *testing.T) {
	for _, n := range rightNodes() {
		if !prog.Right(n) {
			t.Errorf("%s isn't right", told(n))
		}
		for _, holder := range holders(n) {
			if !prog.Right(holder) {
				t.Errorf("%s isn't right", told(holder))
			}
		}
	}
	for i, n := range wrongNodes() {
		isNothing(t, n)
		for _, holder := range holders(n) {
			isNothing(t, holder)
			if i%7 == 0 {
				for _, above := range holders(alt(empty, holder)) {
					isNothing(t, above)
				}
			}
		}
	}
}

// A part that can't be come to makes a node no more right.
func TestNodesThatArentRightWhereNothingLeads(t *testing.T) {
	for _, wrong := range []rex.Node{node(-1), cat(a), node(rex.Star), group(0, a), {Kind: rex.End, Set: class.Of('a')}} {
		isNothing(t, cat(never, wrong))
		isNothing(t, alt(star(any1), cat(never, wrong)))
		isNothing(t, alt(empty, cat(b, begin, wrong)))
		isNothing(t, star(cat(b, star(cat(b, star(cat(b, wrong)))))))
		deep := wrong
		for range 1000 {
			deep = alt(a, cat(empty, maybe(deep)))
		}
		isNothing(t, deep)
	}
}

// Rules for every call

// roomy is a node that holds the same, with room behind all its lists that is written over.
func roomy(n rex.Node) rex.Node {
	mark := group(7, set('m'))
	kids := append(slices.Clone(n.Kids), mark, mark)
	for i := range n.Kids {
		kids[i] = roomy(n.Kids[i])
	}
	n.Kids = kids[:len(n.Kids)]
	return n
}

// areMarked tells whether the room behind all lists of a node is as roomy left it.
func areMarked(n rex.Node) bool {
	for _, it := range n.Kids[:len(n.Kids)+2][len(n.Kids):] {
		if !rex.Same(it, group(7, set('m'))) {
			return false
		}
	}
	return !slices.ContainsFunc(n.Kids, func(kid rex.Node) bool { return !areMarked(kid) })
}

func TestNoCallChangesWhatItIsGiven(t *testing.T) {
	list := append(rightNodes(), wrongNodes()...)
	for _, expression := range []string{"(a*b)*", "a|b|(ab)+", "^(a|)$", "[^a]?b", ".*\\.o"} {
		list = append(list, parsed(t, expression))
	}
	for _, n := range list {
		for _, n := range append(holders(n), n) {
			given := roomy(n)
			for _, s := range []string{"", "ab", "aab"} {
				for from := range len(s) + 1 {
					denote.Ends(given, s, from)
					denote.Spans(given, s, from, len(s))
				}
				denote.In(given, s)
			}
			denote.Empty(given)
			denote.First(given)
			if !rex.Same(given, n) || !areMarked(given) {
				t.Fatalf("%s was changed: %s, or the room behind it", told(n), told(given))
			}
		}
	}
}

func TestAnswersAreTheCallers(t *testing.T) {
	n := parsed(t, "(a|b)*")
	first, second := denote.Ends(n, "abba", 0), denote.Ends(n, "abba", 0)
	for i := range first[:cap(first)] {
		first[:cap(first)][i] = 77
	}
	if want := []int{0, 1, 2, 3, 4}; !slices.Equal(second, want) || !slices.Equal(denote.Ends(n, "abba", 0), want) {
		t.Errorf("answers share their room, or aren't the same each time: %v", second)
	}
	// A node that is written over leaves what was answered of it.
	n.Kids[0].Kids[0].Kids[0] = never
	n.Kids[0].Kids[0].Kids[1] = never
	if want := []int{0, 1, 2, 3, 4}; !slices.Equal(second, want) {
		t.Errorf("an answer was changed: %v", second)
	}
	areEnds(t, n, "abba", 0, []int{0})
}
