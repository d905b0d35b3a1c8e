package denote_test

import (
	"slices"
	"strings"
	"testing"

	"millwright/denote"
	"millwright/prog"
	"millwright/rex"
)

// zero is an expression that spans nothing: a class that has no byte.
const zero = "[^\x00-\xff]"

// rules is Kleene's rules: all that stands in a line between signs of equality is the same, whatever stands for a, b and c; 0 is what spans nothing.
const rules = `a|b = b|a
a|(b|c) = (a|b)|c = a|b|c
a|a = a
a|0 = 0|a = a
0a = a0 = 0
()a = a() = a
a(bc) = (ab)c = abc
a(b|c) = ab|ac
(a|b)c = ac|bc
a* = (|aa*) = (|a*a)
a+ = aa* = a*a = a|aa+ = a|a+a
a? = |a = a|
a* = (a*)* = a** = a*a* = (|a)* = (a+)* = (a?)* = (a*)+ = (a+)? = (a?)+ = (a*)? = |a+
a+ = (a+)+ = a++ = a|a+a+
a? = (a?)? = a??
(a|b)* = (a*b*)* = (a*b)*a* = a*(ba*)* = (a*|b)* = (a*|b*)* = (b|a)* = (a|b)*(a|b)*
(a|b)+ = (a|b)(a|b)* = a+|a*b(a|b)*
(ab)*a = a(ba)*
(ab)* = |a(ba)*b
(ab)+ = a(ba)*b
a* = (aa)*(|a) = (aaa)*(|a|aa) = (aa|aaa)*a?
a*b = b|aa*b
ba* = b|ba*a
(ab|ac)* = (a(b|c))*
(a|b|c)* = (a*b*c*)* = ((a|b)*c)*(a|b)*
() = ()() = ()* = ()+ = ()? = 0* = 0? = |0
0 = 0+ = 00 = 0|0 = (0)
(a) = a = ((a))`

// unlike is lines whose sides are told apart by some of the texts, if each letter stands for itself.
const unlike = `ab = ba
a(b|c) = ab|c
a* = a+
a* = a?
a+ = a
a? = a
(ab)* = a*b*
(a|b)* = a*|b*
(a|b)* = a*b*
(a*b)* = (a|b)*
a*b = b
aa = a
0 = ()
a|b = a`

// shapes is expressions of every shape, which come in the place of letters.
func shapes() []string {
	return []string{
		"", "a", "b", "ab", "a*", "^", zero, "(b|)",
		"$", "a|b", "a+b", "a?b", "^a", "b$", ".", "[^a]", "(ab)*", "(a*)*", "^$", "(^|a)b*", "aa", "a|ab", "($|b)a?", "(a|b*)+", "a.b|",
	}
}

// textsOfRules is the texts over which rules are held.
func textsOfRules() []string {
	return append(textsOf(3), "aabab", "bbaabb", "\n", "a\nb", "\xff\x00a")
}

// put is a node with others in the place of its letters.
func put(n rex.Node, letters map[byte]rex.Node) rex.Node {
	if n.Kind == rex.One {
		return letters[n.Set.Bytes()[0]]
	}
	n.Kids = slices.Clone(n.Kids)
	for i, kid := range n.Kids {
		n.Kids[i] = put(kid, letters)
	}
	return n
}

// eachRow goes through rows of expressions of every shape for the letters that a line has: all of them, or, of three letters, those of the first few.
func eachRow(t *testing.T, line string, do func(letters map[byte]rex.Node)) {
	t.Helper()
	var list []rex.Node
	for _, shape := range shapes() {
		list = append(list, parsed(t, shape))
	}
	if strings.Contains(line, "c") {
		list = list[:8]
	}
	var each func(more string, letters map[byte]rex.Node)
	each = func(more string, letters map[byte]rex.Node) {
		switch {
		case more == "":
			do(letters)
		case !strings.Contains(line, more[:1]):
			each(more[1:], letters)
		default:
			for _, n := range list {
				letters[more[0]] = n
				each(more[1:], letters)
			}
		}
	}
	each("abc", map[byte]rex.Node{'0': never})
}

// sidesOf is the sides of a line.
func sidesOf(t *testing.T, line string) []rex.Node {
	t.Helper()
	var sides []rex.Node
	for _, side := range strings.Split(line, " = ") {
		sides = append(sides, parsed(t, side))
	}
	if len(sides) < 2 {
		t.Fatalf("%q has one side alone", line)
	}
	return sides
}

// areTold tells whether two nodes are told apart by a text, from some place on.
func areTold(one, other rex.Node, s string) bool {
	for from := range len(s) + 1 {
		if !slices.Equal(denote.Ends(one, s, from), denote.Ends(other, s, from)) {
			return true
		}
	}
	return denote.In(one, s) != denote.In(other, s)
}

// P10.3

func TestKleenesRules(t *testing.T) {
	for _, line := range strings.Split(rules, "\n") {
		sides := sidesOf(t, line)
		eachRow(t, line, func(letters map[byte]rex.Node) {
			first := put(sides[0], letters)
			for _, side := range sides[1:] {
				side := put(side, letters)
				if !prog.Right(first) || !prog.Right(side) {
					t.Fatalf("%s or %s isn't right", told(first), told(side))
				}
				for _, s := range textsOfRules() {
					if areTold(first, side, s) {
						t.Fatalf("%q: %q tells %s and %s apart", line, s, told(first), told(side))
					}
				}
				if denote.Empty(first) != denote.Empty(side) {
					t.Errorf("%q: %s and %s are not both empty", line, told(first), told(side))
				}
			}
		})
	}
}

func TestWhatIsNoRuleIsToldApart(t *testing.T) {
	letters := map[byte]rex.Node{'a': a, 'b': b, 'c': set('c'), '0': never}
	for _, line := range strings.Split(unlike, "\n") {
		sides := sidesOf(t, line)
		first, second := put(sides[0], letters), put(sides[1], letters)
		if !slices.ContainsFunc(append(textsOf(3), "ac", "c"), func(s string) bool { return areTold(first, second, s) }) {
			t.Errorf("%q: nothing tells %s and %s apart", line, told(first), told(second))
		}
	}
}

// isWithin tells whether a node spans no part of a text that another one doesn't.
func isWithin(one, other rex.Node, s string) bool {
	for from := range len(s) + 1 {
		ends := denote.Ends(other, s, from)
		for _, to := range denote.Ends(one, s, from) {
			if !slices.Contains(ends, to) {
				return false
			}
		}
	}
	return true
}

// The rules that tell of the least: if b|ac is within c, a*b is; if b|ca is within c, ba* is; if ac is cb, a*c is cb*.
func TestKleenesRulesOfTheLeast(t *testing.T) {
	held := 0
	eachRow(t, "abc", func(letters map[byte]rex.Node) {
		is := func(line string) rex.Node { return put(parsed(t, line), letters) }
		c, left, right, through, back := is("c"), is("b|ac"), is("b|ca"), is("a*b"), is("ba*")
		ac, cb, as, bs := is("ac"), is("cb"), is("a*c"), is("cb*")
		for _, s := range textsOfRules() {
			if isWithin(left, c, s) {
				if held++; !isWithin(through, c, s) {
					t.Errorf("%s isn't within %s in %q", told(through), told(c), s)
				}
			}
			if isWithin(right, c, s) {
				if held++; !isWithin(back, c, s) {
					t.Errorf("%s isn't within %s in %q", told(back), told(c), s)
				}
			}
			if !areTold(ac, cb, s) {
				if held++; areTold(as, bs, s) {
					t.Errorf("%q tells %s and %s apart", s, told(as), told(bs))
				}
			}
		}
	})
	if held < 2000 {
		t.Errorf("held %d times alone", held)
	}
}

// The rules as expressions: the parts stand in brackets in the text that is parsed.
func TestKleenesRulesAsExpressions(t *testing.T) {
	held := 0
	for _, line := range strings.Split(rules, "\n") {
		for i, shape := range shapes() {
			other := shapes()[(7*i+3)%len(shapes())]
			words := strings.NewReplacer("a", "("+shape+")", "b", "("+other+")", "c", "("+shape+")?", "0", zero)
			sides := strings.Split(words.Replace(line), " = ")
			first, err := rex.Parse(sides[0])
			for _, side := range sides[1:] {
				second, wrong := rex.Parse(side)
				// A side may be too long, or have too many groups.
				if err != nil || wrong != nil {
					continue
				}
				held++
				for _, s := range textsOfRules() {
					if areTold(first, second, s) {
						t.Errorf("%q tells %q and %q apart", s, sides[0], side)
					}
				}
			}
		}
	}
	if held < 800 {
		t.Errorf("%d pairs alone", held)
	}
}
