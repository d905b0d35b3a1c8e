package denote_test

import (
	"testing"

	"millwright/class"
	"millwright/denote"
	"millwright/rex"
)

func isFirst(t *testing.T, n rex.Node, want class.Set) {
	t.Helper()
	if got := denote.First(n); got != want {
		t.Errorf("First of %s: %q, not %q", told(n), got.Bytes(), want.Bytes())
	}
}

// begun is a node, and the bytes with which it may begin.
type begun struct {
	n     rex.Node
	bytes string
}

func areBegun(t *testing.T, list []begun) {
	t.Helper()
	for _, one := range list {
		isFirst(t, one.n, class.Of([]byte(one.bytes)...))
	}
}

// P10.1: First

func TestFirstOfEachKind(t *testing.T) {
	areBegun(t, []begun{
		{empty, ""}, {begin, ""}, {end, ""},
		{a, "a"}, {set('a', 'c', 0, 255), "ac\x00\xff"},
		{cat(a, b), "a"}, {alt(a, b), "ab"},
		{star(a), "a"}, {plus(a), "a"}, {maybe(a), "a"}, {group(1, a), "a"},
	})
	for _, s := range []class.Set{{}, class.All(), class.Of('\n').Not(), class.Span(0, 63), class.Span(100, 200), class.Of(0), class.Of(255)} {
		n := rex.Node{Kind: rex.One, Set: s}
		isFirst(t, n, s)
		for _, it := range []rex.Node{star(n), plus(n), maybe(n), group(9, n), cat(n, n), alt(n, n), cat(empty, n), cat(n, empty), alt(empty, n), star(star(group(1, n)))} {
			isFirst(t, it, s)
		}
		isFirst(t, cat(maybe(a), n, b), s.Union(class.Of('a')))
		isFirst(t, alt(a, n, b), s.Union(class.Of('a', 'b')))
	}
}

func TestFirstOfCats(t *testing.T) {
	c := set('c')
	areBegun(t, []begun{
		// no kid skips
		{cat(a, b), "a"}, {cat(a, b, c), "a"}, {cat(alt(a, b), c), "ab"}, {cat(plus(a), b), "a"}, {cat(group(1, a), b), "a"},
		{cat(cat(a, b), c), "a"},
		// the first one does
		{cat(maybe(a), b), "ab"}, {cat(maybe(a), b, c), "ab"}, {cat(star(a), b, c), "ab"}, {cat(empty, b, c), "b"},
		{cat(begin, b, c), "b"}, {cat(end, b, c), "b"}, {cat(plus(maybe(a)), b, c), "ab"}, {cat(group(1, star(a)), b, c), "ab"},
		{cat(alt(a, empty), b, c), "ab"}, {cat(alt(empty, a), b, c), "ab"}, {cat(alt(a, b), c), "ab"}, {cat(cat(maybe(a), star(b)), c), "abc"},
		{cat(cat(maybe(a), b), c), "ab"}, {cat(cat(a, maybe(b)), c), "a"},
		// some do
		{cat(maybe(a), star(b), c), "abc"}, {cat(maybe(a), star(b), c, set('d')), "abc"}, {cat(a, maybe(b), c), "a"}, {cat(maybe(a), b, maybe(c)), "ab"},
		{cat(empty, begin, end, a, b), "a"},
		// all do
		{cat(maybe(a), maybe(b)), "ab"}, {cat(star(a), maybe(b), plus(star(c))), "abc"}, {cat(empty, empty), ""}, {cat(begin, end, empty), ""},
		{cat(begin, maybe(a), end), "a"},
		// a One of no byte doesn't skip
		{cat(never, a), ""}, {cat(maybe(never), a), "a"}, {cat(plus(never), a), ""}, {cat(star(never), a), "a"}, {cat(maybe(a), never, b), "a"},
		{cat(alt(never, empty), a), "a"}, {cat(alt(never, b), a), "b"},
	})
}

func TestFirstOfAlts(t *testing.T) {
	c := set('c')
	areBegun(t, []begun{
		{alt(a, b), "ab"}, {alt(a, a), "a"}, {alt(a, b, c), "abc"}, {alt(cat(a, b), c), "ac"}, {alt(never, a), "a"}, {alt(a, never), "a"}, {alt(never, never), ""},
		{alt(empty, a), "a"}, {alt(a, empty), "a"}, {alt(begin, end), ""}, {alt(begin, a, end), "a"}, {alt(alt(a, b), c), "abc"},
	})
	// whether an Alt skips: no kid, the first, the last, one between, all
	d := set('d')
	areBegun(t, []begun{
		{cat(alt(a, b, c), d), "abc"},
		{cat(alt(maybe(a), b, c), d), "abcd"}, {cat(alt(a, b, star(c)), d), "abcd"}, {cat(alt(a, begin, c), d), "acd"}, {cat(alt(end, b, c), d), "bcd"},
		{cat(alt(maybe(a), star(b), empty), d), "abd"}, {cat(alt(empty, empty), d), "d"}, {cat(alt(maybe(a), b, maybe(c)), d), "abcd"},
		{cat(alt(cat(maybe(a), b), c), d), "abc"}, {cat(alt(cat(maybe(a), maybe(b)), c), d), "abcd"},
	})
}

func TestFirstBehindWhatSkipsOrNot(t *testing.T) {
	for _, it := range []struct {
		n     rex.Node
		skips bool
	}{
		{empty, true}, {begin, true}, {end, true}, {a, false}, {never, false}, {any1, false},
		{star(a), true}, {star(never), true}, {star(empty), true}, {maybe(a), true}, {maybe(never), true}, {maybe(cat(a, b)), true},
		{plus(a), false}, {plus(never), false}, {plus(empty), true}, {plus(star(a)), true}, {plus(begin), true}, {plus(cat(end, maybe(a))), true}, {plus(cat(maybe(a), b)), false}, {plus(plus(a)), false}, {plus(plus(maybe(a))), true},
		{group(1, a), false}, {group(2, empty), true}, {group(3, star(a)), true}, {group(4, plus(a)), false}, {group(5, group(6, maybe(a))), true}, {group(7, group(8, a)), false}, {group(9, alt(a, end)), true}, {plus(group(1, maybe(a))), true}, {group(1, plus(cat(a, empty))), false},
		// It skips, though it spans no part of a text that has bytes.
		{cat(begin, end), true}, {group(1, cat(end, begin)), true},
	} {
		want := denote.First(it.n)
		if it.skips {
			want = want.Union(class.Of('z'))
		}
		isFirst(t, cat(it.n, set('z')), want)
		isFirst(t, cat(empty, it.n, set('z')), want)
		isFirst(t, cat(group(1, it.n), set('z')), want)
		isFirst(t, plus(cat(plus(it.n), group(2, set('z')))), want)
		isFirst(t, cat(star(it.n), set('z')), want.Union(class.Of('z')))
		isFirst(t, cat(maybe(it.n), set('z')), want.Union(class.Of('z')))
		isFirst(t, cat(it.n, it.n), denote.First(it.n))
	}
}

func TestFirstOfExpressions(t *testing.T) {
	for expression, bytes := range map[string]string{
		"": "", "a": "a", "(ab)*": "a", "a|b": "ab", "a?b": "ab", "a*b*c": "abc", "a*b+c": "ab", "^a": "a", "$a": "a", "(^|a)b": "ab",
		"()b": "b", "(a|)b": "ab", "(a*)+b": "ab", "(a+)*b": "ab", "(a+)+b": "a", "[ab]c": "ab", "\\*": "*", "[^\x00-\xff]a": "", "[^\x00-\xff]?a": "a", "|a|b": "ab",
	} {
		isFirst(t, parsed(t, expression), class.Of([]byte(bytes)...))
	}
	isFirst(t, parsed(t, ".*\\.o"), class.Of('\n').Not())
	isFirst(t, parsed(t, "[^a]?b"), class.Of('a').Not())
	isFirst(t, parsed(t, "(.|\n)"), class.All())
}

// mayBegin tells whether a node may begin with a byte, by the chapter's words.
func mayBegin(n rex.Node, b byte) bool {
	switch n.Kind {
	case 1:
		return n.Set.Has(b)
	case 2:
		for i, kid := range n.Kids {
			if mayBegin(kid, b) && (i == 0 || skips(node(2, n.Kids[:i]...))) {
				return true
			}
		}
		return false
	}
	for _, kid := range n.Kids {
		if mayBegin(kid, b) {
			return true
		}
	}
	return false
}

// skips tells whether a node skips, by the chapter's words.
func skips(n rex.Node) bool {
	some, all := false, true
	for _, kid := range n.Kids {
		is := skips(kid)
		some, all = some || is, all && is
	}
	switch n.Kind {
	case 1:
		return false
	case 2, 5, 7:
		return all
	case 3:
		return some
	}
	return true
}

func isFirstOfTheWords(t *testing.T, n rex.Node) {
	t.Helper()
	var want class.Set
	for _, b := range class.All().Bytes() {
		if mayBegin(n, b) {
			want = want.Union(class.Of(b))
		}
	}
	isFirst(t, n, want)
	// The empty text's one place is both its beginning and its end, so that just what skips spans it.
	isEmpty(t, n, skips(n))
}

func TestFirstOfNodesOfEveryShape(t *testing.T) {
	for size := 1; size <= 3; size++ {
		for _, n := range smallNodes(size) {
			isFirstOfTheWords(t, n)
			isFirstOfTheWords(t, cat(n, set('z')))
		}
	}
	m := &maker{state: 5463458053}
	for i := range 4000 {
		isFirstOfTheWords(t, m.node(1+i%6))
	}
}

// What a node spans begins with one of its first bytes.
func TestWhatIsSpannedBeginsAsFirstTells(t *testing.T) {
	m := &maker{state: 362436069}
	held := 0
	for i := range 6000 {
		n, s := m.node(1+i%6), m.text(8)
		set := denote.First(n)
		for from := range len(s) {
			for _, to := range denote.Ends(n, s, from) {
				if held++; to > from && !set.Has(s[from]) {
					t.Errorf("%s spans %q from %d to %d, but may begin with %q alone", told(n), s, from, to, set.Bytes())
				}
			}
		}
	}
	if held < 5000 {
		t.Errorf("%d ends alone", held)
	}
}
