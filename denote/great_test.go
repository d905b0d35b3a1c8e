package denote_test

import (
	"slices"
	"strings"
	"testing"

	"millwright/class"
	"millwright/denote"
	"millwright/rex"
)

// upTo is all places from one to another one.
func upTo(from, to int) []int {
	var out []int
	for place := from; place <= to; place++ {
		out = append(out, place)
	}
	return out
}

// within is a node in so many others, one in the other.
func within(many int, outer func(rex.Node) rex.Node, n rex.Node) rex.Node {
	for range many {
		n = outer(n)
	}
	return n
}

// P10.1: every call ends, though there are too many ways to go through them one by one

func TestExpressionsThatDouble(t *testing.T) {
	text := strings.Repeat("a", 5000)
	nested := strings.Repeat("(", 9) + "a*" + strings.Repeat(")*", 9)
	for _, expression := range []string{"(a*)*", "(a+)+", nested, "(a|a)*", "(a|a|a|a|aa)*", "(a?a?a?a?a?a?a?a?)*", "((a|b*)*|(b|a*)*)*", "a*a*a*a*a*a*a*a*a*a*a*", "a" + strings.Repeat("*", 59), "a" + strings.Repeat("*+?", 19), "a+" + strings.Repeat("+", 58)} {
		n := parsed(t, expression)
		isIn(t, n, text, true)
		isIn(t, n, text+"b"+text+"c", false)
		isIn(t, cat(n, end), text, true)
		isIn(t, cat(n, b), text, false)
		isIn(t, cat(n, b), text+"b", true)
	}
	areEnds(t, parsed(t, nested), text+"b", 0, upTo(0, 5000))
	areEnds(t, parsed(t, nested), text+"b", 4000, upTo(4000, 5000))
	areEnds(t, parsed(t, nested), text+"b", 5001, []int{5001})
}

func TestNodesThatDouble(t *testing.T) {
	text := strings.Repeat("a", 400)
	halves := cat(append(times(200, maybe(a)), times(200, a)...)...)
	areEnds(t, halves, text, 0, upTo(200, 400))
	areEnds(t, halves, text, 150, upTo(350, 400))
	areEnds(t, halves, text, 201, nil)
	areEnds(t, cat(times(300, alt(a, a))...), text, 0, []int{300})
	areEnds(t, cat(times(300, alt(empty, empty, begin))...), text, 0, []int{0})
	areEnds(t, cat(times(300, star(a))...), text, 0, upTo(0, 400))
	areEnds(t, cat(times(300, plus(a))...), text, 0, upTo(300, 400))
	for _, outer := range []func(rex.Node) rex.Node{
		func(n rex.Node) rex.Node { return star(cat(star(n), empty)) },
		func(n rex.Node) rex.Node { return plus(cat(maybe(a), plus(n), maybe(a))) },
		func(n rex.Node) rex.Node { return star(alt(n, star(n))) },
		func(n rex.Node) rex.Node { return plus(alt(plus(n), maybe(n), begin)) },
		func(n rex.Node) rex.Node { return star(cat(maybe(n), star(a))) },
	} {
		n := within(9, outer, a)
		if got := denote.Ends(n, text, 100); !slices.Equal(got, upTo(100, 400)) && !slices.Equal(got, upTo(101, 400)) {
			t.Errorf("Ends of %s: %v", told(n), got)
		}
		isIn(t, n, text, true)
		isIn(t, n, text+"b", false)
	}
}

func TestDeepNodes(t *testing.T) {
	const deep = 1 << 16
	for _, one := range []struct {
		outer func(rex.Node) rex.Node
		ends  string
	}{
		{star, "0 1 2"},
		{plus, "1 2"},
		{maybe, "0 1"},
		{func(n rex.Node) rex.Node { return group(3, n) }, "1"},
		{func(n rex.Node) rex.Node { return cat(empty, n) }, "1"},
		{func(n rex.Node) rex.Node { return cat(n, end) }, ""},
		{func(n rex.Node) rex.Node { return cat(n, star(b)) }, "1"},
		{func(n rex.Node) rex.Node { return alt(n, empty) }, "0 1"},
		{func(n rex.Node) rex.Node { return alt(never, n) }, "1"},
	} {
		n := within(deep, one.outer, a)
		areEnds(t, n, "aab", 0, rowsOf(one.ends)[0])
		isFirst(t, n, class.Of('a'))
		wrong := within(deep, one.outer, cat(a))
		areEnds(t, wrong, "aab", 0, nil)
		isFirst(t, wrong, class.Set{})
	}
	both := within(deep/2, func(n rex.Node) rex.Node { return star(cat(n, empty)) }, a)
	areEnds(t, both, "aab", 0, []int{0, 1, 2})
	isEmpty(t, both, true)
}

func TestGreatNodes(t *testing.T) {
	const great = 1 << 16
	text := strings.Repeat("ab", great/2)
	literal := rex.Literal(text)
	areEnds(t, literal, text, 0, []int{great})
	areEnds(t, literal, "a"+text, 0, nil)
	areEnds(t, literal, "a"+text, 1, []int{great + 1})
	isIn(t, literal, text[1:], false)
	isFirst(t, literal, class.Of('a'))
	for _, n := range []rex.Node{empty, begin, star(a), maybe(a), plus(star(a)), alt(empty, b), group(1, begin), star(begin), plus(empty)} {
		isIn(t, cat(times(great, n)...), "", true)
		areEnds(t, cat(times(great, n)...), "c", 0, []int{0})
		isIn(t, alt(times(great, n)...), "", true)
		areEnds(t, alt(times(great, n)...), "c", 0, []int{0})
	}
	areEnds(t, cat(times(great, end)...), "c", 1, []int{1})
	areEnds(t, cat(times(great, maybe(a))...), "aab", 0, []int{0, 1, 2})
	areEnds(t, alt(times(great, a)...), "aab", 0, []int{1})
	isFirst(t, cat(append(times(great, maybe(a)), b)...), class.Of('a', 'b'))
}

func TestGreatTexts(t *testing.T) {
	const great = 1 << 20
	text := strings.Repeat("a", great)
	areEnds(t, star(a), text, 0, upTo(0, great))
	areEnds(t, star(star(group(1, a))), text, great-3, upTo(great-3, great))
	areEnds(t, a, text, great-1, []int{great})
	isIn(t, parsed(t, "(a|b)*"), text, true)
	isIn(t, parsed(t, "((a*)b?)*"), text+"c", false)
	isIn(t, parsed(t, ".*a"), text, true)
	isIn(t, parsed(t, "(a+)*b"), text, false)
	isSpanned(t, star(a), text, 5, great-5, true)
	isSpanned(t, cat(star(a), end), text, 5, great-5, false)
	// What can't go on is left at once.
	for from := range 3000 {
		isSpanned(t, cat(a, a), text, from, from+2, true)
		isSpanned(t, cat(a, b), text, from, great, false)
		areEnds(t, maybe(a), text, from, []int{from, from + 1})
		// Nothing behind the place that is asked for is looked at.
		isSpanned(t, star(a), text, from, from+1, true)
	}
}
