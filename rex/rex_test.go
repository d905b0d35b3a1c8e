package rex_test

import (
	"errors"
	"fmt"
	"slices"
	"strings"
	"testing"

	"millwright/api"
	"millwright/class"
	"millwright/rex"
)

// Nodes as the tests write them down.

func empty() rex.Node               { return rex.Node{} }
func begin() rex.Node               { return rex.Node{Kind: rex.Begin} }
func end() rex.Node                 { return rex.Node{Kind: rex.End} }
func cat(kids ...rex.Node) rex.Node { return rex.Node{Kind: rex.Cat, Kids: kids} }
func alt(kids ...rex.Node) rex.Node { return rex.Node{Kind: rex.Alt, Kids: kids} }
func star(kid rex.Node) rex.Node    { return rex.Node{Kind: rex.Star, Kids: []rex.Node{kid}} }
func plus(kid rex.Node) rex.Node    { return rex.Node{Kind: rex.Plus, Kids: []rex.Node{kid}} }
func maybe(kid rex.Node) rex.Node   { return rex.Node{Kind: rex.Maybe, Kids: []rex.Node{kid}} }
func of(s class.Set) rex.Node       { return rex.Node{Kind: rex.One, Set: s} }
func point() rex.Node               { return without("\n") }

// one is a One of a text's bytes, without a One of all but these, row a Cat of Ones of one byte each.
func one(list string) rex.Node     { return of(class.Of([]byte(list)...)) }
func without(list string) rex.Node { return of(class.Of([]byte(list)...).Not()) }

func row(list string) rex.Node {
	var kids []rex.Node
	for _, b := range []byte(list) {
		kids = append(kids, one(string([]byte{b})))
	}
	return cat(kids...)
}

func span(low, high byte) rex.Node { return of(class.Span(low, high)) }

func group(index int, kid rex.Node) rex.Node {
	return rex.Node{Kind: rex.Group, Index: index, Kids: []rex.Node{kid}}
}

// told is a node as a text: no two that differ have the same one.
func told(n rex.Node) string {
	var out strings.Builder
	fmt.Fprintf(&out, "%d", n.Kind)
	if n.Index != 0 {
		fmt.Fprintf(&out, "#%d", n.Index)
	}
	if n.Set != (class.Set{}) {
		fmt.Fprintf(&out, "{%q %x}", n.Set.Bytes(), [4]uint64(n.Set))
	}
	if len(n.Kids) > 0 {
		var kids []string
		for _, kid := range n.Kids {
			kids = append(kids, told(kid))
		}
		out.WriteString("(" + strings.Join(kids, " ") + ")")
	}
	return out.String()
}

// alike tells whether two nodes are the same all over, asked in another way than Same does.
func alike(a, b rex.Node) bool {
	if a.Kind != b.Kind || a.Index != b.Index || len(a.Kids) != len(b.Kids) {
		return false
	}
	for w := range a.Set {
		if a.Set[w] != b.Set[w] {
			return false
		}
	}
	for i := range a.Kids {
		if !alike(a.Kids[i], b.Kids[i]) {
			return false
		}
	}
	return true
}

// copied is a node apart.
func copied(n rex.Node) rex.Node {
	var kids []rex.Node
	for _, kid := range n.Kids {
		kids = append(kids, copied(kid))
	}
	n.Kids = kids
	return n
}

// isParsed holds a text against the node that it should have.
func isParsed(t *testing.T, s string, want rex.Node) {
	t.Helper()
	got, err := rex.Parse(s)
	if err != nil {
		t.Errorf("Parse of %q: %v", s, err)
	} else if !alike(got, want) {
		t.Errorf("Parse of %q is %s, not %s", s, told(got), told(want))
	}
}

// isRefused holds a text against the error that it should have, and asks for a zero node beside it.
func isRefused(t *testing.T, s string, want error) {
	t.Helper()
	got, err := rex.Parse(s)
	if !errors.Is(err, want) {
		t.Errorf("Parse of %q: %v, not %v (%s)", s, err, want, told(got))
	}
	if got.Kind != 0 || got.Index != 0 || got.Set != (class.Set{}) || got.Kids != nil {
		t.Errorf("Parse of %q has a node beside its error: %s", s, told(got))
	}
}

type parsed struct {
	text string
	want rex.Node
}

func areParsed(t *testing.T, list []parsed) {
	t.Helper()
	for _, c := range list {
		isParsed(t, c.text, c.want)
	}
}

func areRefused(t *testing.T, list []string, want error) {
	t.Helper()
	for _, s := range list {
		isRefused(t, s, want)
	}
}

// P7.1: Parse of branches and items

func TestTheExampleOfTheChapter(t *testing.T) {
	isParsed(t, "a|bc", alt(one("a"), cat(one("b"), one("c"))))
}

func TestBranchesAndItems(t *testing.T) {
	a, b, c := one("a"), one("b"), one("c")
	areParsed(t, []parsed{
		{"", empty()}, {"a", a}, {"ab", cat(a, b)}, {"abc", cat(a, b, c)},
		{"a|b", alt(a, b)}, {"a|b|c", alt(a, b, c)}, {"ab|c", alt(cat(a, b), c)}, {"a|bc|a", alt(a, cat(b, c), a)},
		{"aa|aa", alt(cat(a, a), cat(a, a))},
		{"|", alt(empty(), empty())}, {"||", alt(empty(), empty(), empty())},
		{"|a", alt(empty(), a)}, {"a|", alt(a, empty())}, {"a||b", alt(a, empty(), b)},
		{"|ab", alt(empty(), cat(a, b))}, {"ab|", alt(cat(a, b), empty())}, {"|a|", alt(empty(), a, empty())},
		{"||a", alt(empty(), empty(), a)}, {"a||", alt(a, empty(), empty())},
		{"()", group(1, empty())}, {"(a)", group(1, a)}, {"(ab)", group(1, cat(a, b))}, {"(a|b)", group(1, alt(a, b))},
		{"(|)", group(1, alt(empty(), empty()))}, {"(|a)", group(1, alt(empty(), a))}, {"(a|)", group(1, alt(a, empty()))},
		{"(a||b)", group(1, alt(a, empty(), b))}, {"(||)", group(1, alt(empty(), empty(), empty()))},
		{"()|()", alt(group(1, empty()), group(2, empty()))}, {"|()|", alt(empty(), group(1, empty()), empty())},
		{"a(b|c)a", cat(a, group(1, alt(b, c)), a)}, {"(a|b)|c", alt(group(1, alt(a, b)), c)}, {"a|(b|c)", alt(a, group(1, alt(b, c)))},
		{"(ab)c", cat(group(1, cat(a, b)), c)}, {"a(bc)", cat(a, group(1, cat(b, c)))}, {"(a)|", alt(group(1, a), empty())},
	})
}

// P7.1: Parse of stars, plus signs and question marks

func TestSignsBehindAtoms(t *testing.T) {
	a, b := one("a"), one("b")
	areParsed(t, []parsed{
		{"a*", star(a)}, {"a+", plus(a)}, {"a?", maybe(a)},
		{"ab*", cat(a, star(b))}, {"a*b", cat(star(a), b)}, {"a*b*", cat(star(a), star(b))}, {"a|b*", alt(a, star(b))}, {"a*|b", alt(star(a), b)},
		{"(a)*", star(group(1, a))}, {"(ab)+", plus(group(1, cat(a, b)))}, {"(a|b)?", maybe(group(1, alt(a, b)))},
		{"(a*)", group(1, star(a))}, {"(a*)*", star(group(1, star(a)))}, {"((a)+)?", maybe(group(1, plus(group(2, a))))},
		{"()*", star(group(1, empty()))}, {"(|)+", plus(group(1, alt(empty(), empty())))}, {"()?", maybe(group(1, empty()))},
		{"[ab]*", star(one("ab"))}, {"[^a]+", plus(without("a"))}, {"[a-b]?", maybe(one("ab"))}, {"[a]b*", cat(a, star(b))},
		{".*", star(point())}, {"^*", star(begin())}, {"$+", plus(end())}, {"^?$?", cat(maybe(begin()), maybe(end()))},
		{"\\a*", star(a)}, {"\\**", star(one("*"))}, {"\\++", plus(one("+"))}, {"\\??", maybe(one("?"))}, {"\\*\\+\\?", row("*+?")},
		{"]*", star(one("]"))}, {"-+", plus(one("-"))}, {"\n?", maybe(one("\n"))}, {"\xff*", star(one("\xff"))},
	})
}

func TestSignsBehindSigns(t *testing.T) {
	a := one("a")
	areParsed(t, []parsed{
		{"a**", star(star(a))}, {"a++", plus(plus(a))}, {"a??", maybe(maybe(a))},
		{"a*+", plus(star(a))}, {"a+*", star(plus(a))}, {"a*?", maybe(star(a))}, {"a?*", star(maybe(a))}, {"a+?", maybe(plus(a))}, {"a?+", plus(maybe(a))},
		{"a*+?", maybe(plus(star(a)))}, {"a?+*", star(plus(maybe(a)))}, {"a+*?+", plus(maybe(star(plus(a))))},
		{"(a)*+?", maybe(plus(star(group(1, a))))}, {"[a]?*+", plus(star(maybe(a)))}, {".+*", star(plus(point()))}, {"^**", star(star(begin()))},
		{"b(a**)++", cat(one("b"), plus(plus(group(1, star(star(a))))))}, {"aa**|a", alt(cat(a, star(star(a))), a)},
	})
	most := a
	for range api.MaxRegex - 1 {
		most = star(most)
	}
	isParsed(t, "a"+strings.Repeat("*", api.MaxRegex-1), most)
}

func TestSignsWithoutAnAtom(t *testing.T) {
	for _, sign := range []string{"*", "+", "?"} {
		for _, s := range []string{"%", "%a", "%%", "a|%", "|%", "%|a", "a|%b", "(%)", "(%a)", "a(%", "(a|%)", "(a)(%)", "()(%a)", "(|%", "%)", "(%", "%[a]", "%*", "%+", "%?", "((%))", "a||%"} {
			isRefused(t, strings.ReplaceAll(s, "%", sign), api.ErrRegex)
		}
	}
	isRefused(t, strings.Repeat("*", api.MaxRegex), api.ErrRegex)
}

// P7.1: Parse of round brackets

func TestGroupsWithinGroups(t *testing.T) {
	a, b, c, d := one("a"), one("b"), one("c"), one("d")
	areParsed(t, []parsed{
		{"((a))", group(1, group(2, a))}, {"(())", group(1, group(2, empty()))}, {"()()", cat(group(1, empty()), group(2, empty()))},
		{"(a(b)c)(d)", cat(group(1, cat(a, group(2, b), c)), group(3, d))},
		{"((a)(b))((c)d)", cat(group(1, cat(group(2, a), group(3, b))), group(4, cat(group(5, c), d)))},
		{"(a)|(b)|(c)", alt(group(1, a), group(2, b), group(3, c))},
		{"(a|(b))|(c)", alt(group(1, alt(a, group(2, b))), group(3, c))},
		{"(a)*(b)+(c)?", cat(star(group(1, a)), plus(group(2, b)), maybe(group(3, c)))},
		{"((a)*|b)+", plus(group(1, alt(star(group(2, a)), b)))},
		{"(((a)b)c)d", cat(group(1, cat(group(2, cat(group(3, a), b)), c)), d)},
		{"(\\()", group(1, one("("))}, {"(\\))", group(1, one(")"))}, {"\\((a)\\)", cat(one("("), group(1, a), one(")"))},
		{"([)])", group(1, one(")"))}, {"[(]([(])", cat(one("("), group(1, one("(")))}, {"[()](a)", cat(one("()"), group(1, a))},
		{"([(])[)]", cat(group(1, one("(")), one(")"))},
	})
}

func TestBracketsThatDontMatch(t *testing.T) {
	areRefused(t, []string{
		"(", "((", "(a", "a(", "(a|b", "(a|", "(|", "((a)", "(()", "(a)(", "(a)(b", "(a(b)", "()(", "a|(", "(()()", "(a*", "[a](",
		")", "))", "a)", ")a", "())", "(a))", "(a)b)", "a|b)", "a|)", "|)", ")|a", "()a)", "a)(b", ")(", "(a))(", "[a])", "a*)", "(a)|)",
		"(\\)", "([)]", "(a\\)", "\\(a)", "[(])", "([)", "[(]a)",
		strings.Repeat("(", api.MaxRegex), strings.Repeat(")", api.MaxRegex), strings.Repeat("(", 30) + strings.Repeat(")", 29), strings.Repeat("(", 29) + strings.Repeat(")", 30),
	}, api.ErrRegex)
}

// nested is so many groups within one another, with what stands within them all.
func nested(from, to int, kid rex.Node) rex.Node {
	for i := to; i >= from; i-- {
		kid = group(i, kid)
	}
	return kid
}

// inARow is so many groups of one byte each, one behind the other.
func inARow(count int) []rex.Node {
	var out []rex.Node
	for i := range count {
		out = append(out, group(i+1, one("a")))
	}
	return out
}

func TestAsManyGroupsAsMayBe(t *testing.T) {
	most := api.MaxGroups
	isParsed(t, strings.Repeat("(", most)+"a"+strings.Repeat(")", most), nested(1, most, one("a")))
	isParsed(t, strings.Repeat("(a)", most), cat(inARow(most)...))
	isParsed(t, strings.Repeat("(a)|", most-1)+"(a)", alt(inARow(most)...))
	isParsed(t, strings.Repeat("(a)", most)+"[(]\\(", cat(append(inARow(most), one("("), one("("))...))
	isParsed(t, strings.Repeat("\\(", 20), row(strings.Repeat("(", 20)))
	isParsed(t, strings.Repeat("[(]", 20), row(strings.Repeat("(", 20)))
	isParsed(t, "((a)(a)(a))((a)(a)(a))(a)", cat(
		group(1, cat(group(2, one("a")), group(3, one("a")), group(4, one("a")))),
		group(5, cat(group(6, one("a")), group(7, one("a")), group(8, one("a")))),
		group(9, one("a"))))
}

func TestMoreGroupsThanMayBe(t *testing.T) {
	more := api.MaxGroups + 1
	areRefused(t, []string{
		strings.Repeat("(", more) + "a" + strings.Repeat(")", more), strings.Repeat("()", more), strings.Repeat("(a)", more),
		strings.Repeat("()|", api.MaxGroups) + "()", strings.Repeat("()*", more), "(" + strings.Repeat("()", api.MaxGroups) + ")",
		strings.Repeat("(", api.MaxGroups) + strings.Repeat(")", api.MaxGroups) + "|()", "a" + strings.Repeat("()", more) + "b",
		strings.Repeat("(", 29) + "aa" + strings.Repeat(")", 29), strings.Repeat("()", 30), strings.Repeat("(", 30) + strings.Repeat(")", 30),
	}, api.ErrFull)
}

// P7.1: Parse of classes

func TestClassesOfMembers(t *testing.T) {
	areParsed(t, []parsed{
		{"[a]", one("a")}, {"[ab]", one("ab")}, {"[ba]", one("ab")}, {"[aa]", one("a")}, {"[abcabc]", one("abc")},
		{"[a-c]", one("abc")}, {"[a-a]", one("a")}, {"[a-b]", one("ab")}, {"[a-cx-z]", one("abcxyz")}, {"[a-cb-d]", one("abcd")}, {"[xa-c]", one("xabc")}, {"[a-cx]", one("xabc")},
		{"[0-9a-f]", one("0123456789abcdef")}, {"[a][b]", row("ab")}, {"[a]b", row("ab")}, {"a[b]", row("ab")}, {"[a]|[b]", alt(one("a"), one("b"))},
		{"[[]", one("[")}, {"[[a]", one("[a")}, {"[a[]", one("[a")}, {"[[[]", one("[")}, {"[a]]", row("a]")}, {"[[]]", row("[]")}, {"]", one("]")}, {"]]", row("]]")}, {"a]", row("a]")},
		{"[.]", one(".")}, {"[$]", one("$")}, {"[|]", one("|")}, {"[*+?]", one("*+?")}, {"[()]", one("()")}, {"[\n]", one("\n")}, {"[{}]", one("{}")}, {"[.$|*+?()\n]", one(".$|*+?()\n")},
		{"[\\a]", one("a")}, {"[\\n]", one("n")}, {"[\\]]", one("]")}, {"[\\\\]", one("\\")}, {"[\\]\\\\]", one("]\\")}, {"[a\\]b]", one("a]b")}, {"[\\]a]", one("a]")}, {"[a\\]]", one("a]")}, {"[\\-]", one("-")}, {"[\\[]", one("[")},
		{"[\\]]]", row("]]")}, {"[\\\\]]", row("\\]")}, {"[\\.]", one(".")}, {"[\\\n]", one("\n")},
		{"[" + strings.Repeat("a", api.MaxRegex-2) + "]", one("a")},
	})
}

func TestClassesWithACaret(t *testing.T) {
	areParsed(t, []parsed{
		{"[^a]", without("a")}, {"[^ab]", without("ab")}, {"[^a-c]", without("abc")}, {"[^^]", without("^")}, {"[^^^]", without("^")}, {"[^^a]", without("^a")}, {"[^a^]", without("a^")},
		{"[a^]", one("a^")}, {"[a^b]", one("a^b")}, {"[\\^]", one("^")}, {"[\\^a]", one("^a")}, {"[^\\^]", without("^")}, {"[-^]", one("-^")}, {"[[^]", one("[^")}, {"[\\]^]", one("]^")},
		{"[^\\]]", without("]")}, {"[^\\\\]", without("\\")}, {"[^[]", without("[")}, {"[^\n]", point()}, {"[^.]", without(".")}, {"[^a]^", cat(without("a"), begin())},
		{"[^a][^b]", cat(without("a"), without("b"))}, {"[^aa]", without("a")}, {"[^\x80-\xff]", span(0, 127)}, {"[^\x00]", span(1, 255)}, {"[^\xff]", span(0, 254)},
		{"[\x00-\xff]", of(class.All())}, {"[^\x00-\xff]", of(class.Set{})}, {"[^\x00-ab-\xff]", of(class.Set{})}, {"[^^-`]", of(class.Span('^', '`').Not())},
		{"[Z-^]", span('Z', '^')}, {"[\\^-`]", span('^', '`')}, {"[a^-`]", of(class.Span('^', '`').Union(class.Of('a')))},
	})
}

func TestClassesWithADash(t *testing.T) {
	areParsed(t, []parsed{
		{"[-]", one("-")}, {"[--]", one("-")}, {"[---]", one("-")}, {"[----]", one("-")}, {"[-----]", one("-")},
		{"[-a]", one("-a")}, {"[a-]", one("a-")}, {"[ab-]", one("ab-")}, {"[-ab]", one("-ab")}, {"[-a-]", one("-a")}, {"[-a-c]", one("-abc")},
		{"[^-]", without("-")}, {"[^-a]", without("-a")}, {"[^a-]", without("a-")}, {"[^--]", without("-")}, {"[^---]", without("-")}, {"[^-a-c]", without("-abc")},
		{"[a-c-]", one("abc-")}, {"[a-c-e]", one("abc-e")}, {"[a-c-a]", one("abc-")}, {"[a-ce-g-]", one("abcefg-")}, {"[a-c-e-g]", one("abc-efg")},
		{"[--0]", one("-./0")}, {"[+--]", one("+,-")}, {"[+---]", one("+,-")}, {"[+--/]", one("+,-/")}, {"[a-c--0]", one("abc-./0")}, {"[---0]", one("-0")}, {"[^--0]", without("-./0")},
		{"[a\\-c]", one("a-c")}, {"[a\\-]", one("a-")}, {"[\\-a]", one("-a")}, {"[\\--0]", one("-./0")}, {"[\\--]", one("-")}, {"[+-\\-]", one("+,-")}, {"[\\-\\-\\-]", one("-")},
		{"[a-\\c]", one("abc")}, {"[\\a-c]", one("abc")}, {"[\\a-\\c]", one("abc")}, {"[a-c\\-e]", one("abc-e")},
		{"[Z-\\]]", one("Z[\\]")}, {"[Z-\\\\]", one("Z[\\")}, {"[\\\\-^]", one("\\]^")}, {"[\\]-_]", one("]^_")}, {"[\\]-\\_]", one("]^_")}, {"[[-\\]]", one("[\\]")}, {"[Z-[]", one("Z[")},
		{"[a-]-]", cat(one("a-"), one("-"), one("]"))}, {"[[-]]", cat(one("[-"), one("]"))}, {"[\\]-]", one("]-")}, {"[\\\\-]", one("\\-")}, {"[!--]-]", cat(span('!', '-'), one("-"), one("]"))},
		{"-", one("-")}, {"a-c", row("a-c")}, {"--", row("--")}, {"\\-", one("-")}, {"[a]-[c]", row("a-c")},
		{"[\x00-\x00]", one("\x00")}, {"[\xfe-\xff]", one("\xfe\xff")}, {"[\xff-\xff]", one("\xff")}, {"[\x7f-\x80]", one("\x7f\x80")},
	})
}

func TestTwoBytesThatFall(t *testing.T) {
	areRefused(t, []string{
		"[b-a]", "[c-a]", "[^b-a]", "[ab-a]", "[b-ac]", "[a-cb-a]", "[z-a]", "[1-0]", "[a--]", "[a--b]", "[a--0]", "[a-^]", "[--+]", "[a-\\-]",
		"[\\b-a]", "[b-\\a]", "[\\b-\\a]", "[\\]-[]", "[\\]-\\[]", "[\\a-\\]]", "[a-\\]]", "[a-[]", "[\xff-\x00]", "[\x80-\x7f]", "[\x01-\x00]",
		"[b-a", "[b-a]*", "([b-a])", "a|[b-a]", "[a-b-c--]", "[b-a-z]", "[a-a-a-_]",
	}, api.ErrRegex)
}

func TestClassesThatAreNone(t *testing.T) {
	areRefused(t, []string{
		"[]", "[^]", "[]]", "[^]]", "[]a]", "[^]a]", "a[]", "[]*", "([])", "[a][]", "a|[]", "[]-a]", "[^]-a]", "[][a]",
		"[", "[^", "[a", "[^a", "[a-", "[^a-", "[a-b", "[a-b-", "[-", "[--", "[---", "[[", "[[a", "[ab", "a[", "[a][", "([", "(a|[b", "[a|b", "[a)", "[^^", "[*",
		"[\\", "[a\\", "[^\\", "[a-\\", "[\\]", "[a\\]", "[^\\]", "[a-\\]", "[\\a", "[\\a-", "[\\a-\\", "[\\\\\\]", "[a]b[\\]", "[\\a-\\]",
		"[" + strings.Repeat("a", api.MaxRegex-1), strings.Repeat("[", api.MaxRegex),
	}, api.ErrRegex)
}

// P7.1: Parse of single bytes

func TestBackslashes(t *testing.T) {
	areParsed(t, []parsed{
		{"\\a", one("a")}, {"\\n", one("n")}, {"\\d", one("d")}, {"\\0", one("0")}, {"\\\n", one("\n")}, {"\\\x00", one("\x00")}, {"\\\xff", one("\xff")}, {"\\\\", one("\\")}, {"\\\\\\\\", row("\\\\")},
		{"\\.", one(".")}, {"\\^", one("^")}, {"\\$", one("$")}, {"\\|", one("|")}, {"a\\|b", row("a|b")}, {"\\(", one("(")}, {"\\)", one(")")}, {"\\[", one("[")}, {"\\[a]", row("[a]")}, {"\\]", one("]")},
		{"\\\\a", row("\\a")}, {"\\\\*", star(one("\\"))}, {"\\\\|a", alt(one("\\"), one("a"))}, {"(\\\\)", group(1, one("\\"))}, {"[a]\\\\", row("a\\")},
	})
	areRefused(t, []string{
		"\\", "a\\", "\\\\\\", "(\\", "(a\\", "(a)\\", "a|\\", "a*\\", "[a]\\", "\\a\\", ".\\", "\\" + strings.Repeat("\\\\", 29), strings.Repeat("a", api.MaxRegex-1) + "\\",
	}, api.ErrRegex)
}

func TestPointsBeginningsAndEnds(t *testing.T) {
	a, b := one("a"), one("b")
	areParsed(t, []parsed{
		{".", point()}, {"..", cat(point(), point())}, {"a.b", cat(a, point(), b)}, {"\n", one("\n")}, {"a\nb", row("a\nb")}, {".|\n", alt(point(), one("\n"))},
		{"^", begin()}, {"$", end()}, {"^$", cat(begin(), end())}, {"$^", cat(end(), begin())}, {"^^", cat(begin(), begin())}, {"$$", cat(end(), end())},
		{"^a$", cat(begin(), a, end())}, {"a^b", cat(a, begin(), b)}, {"a$b", cat(a, end(), b)}, {"a^", cat(a, begin())}, {"$a", cat(end(), a)},
		{"^|$", alt(begin(), end())}, {"a|^b$", alt(a, cat(begin(), b, end()))}, {"(^a|b$)", group(1, alt(cat(begin(), a), cat(b, end())))}, {"(^)($)", cat(group(1, begin()), group(2, end()))},
		{"a|$|b", alt(a, end(), b)}, {"^*a", cat(star(begin()), a)},
	})
	n, err := rex.Parse(".")
	if err != nil || n.Set.Has('\n') || n.Set.Count() != 255 {
		t.Errorf("a point: %s, %v", told(n), err)
	}
}

func TestBytesAbove127(t *testing.T) {
	areParsed(t, []parsed{
		{"\x80", one("\x80")}, {"\xff", one("\xff")}, {"\xc3\xa9", cat(one("\xc3"), one("\xa9"))}, {"\xc3\xa9*", cat(one("\xc3"), star(one("\xa9")))}, {"[\xc3\xa9]", one("\xc3\xa9")}, {"[^\xc3\xa9]", without("\xc3\xa9")},
		{"[\x80-\xff]", span(128, 255)}, {"[\xc3\xa9-\xb0]", of(class.Span(0xa9, 0xb0).Union(class.Of(0xc3)))}, {"[a-\xff]", span('a', 255)}, {"\\\xc3\xa9", row("\xc3\xa9")}, {"\xef\xbf\xbd", row("\xef\xbf\xbd")}, {"(\xff|\xfe)", group(1, alt(one("\xff"), one("\xfe")))},
	})
}

// special is the bytes of which an atom of one byte is none, or another one.
const special = "().^$[\\|*+?"

func TestEachByteAlone(t *testing.T) {
	for b := range 256 {
		s := string([]byte{byte(b)})
		switch {
		case s == ".":
			isParsed(t, s, point())
		case s == "^":
			isParsed(t, s, begin())
		case s == "$":
			isParsed(t, s, end())
		case s == "|":
			isParsed(t, s, alt(empty(), empty()))
		case strings.Contains(special, s):
			isRefused(t, s, api.ErrRegex)
		default:
			isParsed(t, s, one(s))
			isParsed(t, "x"+s+"y", row("x"+s+"y"))
			isParsed(t, s+s, row(s+s))
			isParsed(t, "("+s+"|"+s+"*)", group(1, alt(one(s), star(one(s)))))
		}
	}
}

func TestEachByteInAClass(t *testing.T) {
	for b := range 256 {
		s := string([]byte{byte(b)})
		isParsed(t, "[\\"+s+"]", one(s))
		isParsed(t, "[^\\"+s+"]", without(s))
		isParsed(t, "[\\"+s+"~]", one("~"+s))
		isParsed(t, "[~\\"+s+"]", one("~"+s))
		switch s {
		case "]", "\\":
			isRefused(t, "["+s+"]", api.ErrRegex)
		case "^":
			isRefused(t, "[^]", api.ErrRegex)
			isParsed(t, "[^^]", without("^"))
			isParsed(t, "[~^]", one("~^"))
		default:
			isParsed(t, "["+s+"]", one(s))
			isParsed(t, "[^"+s+"]", without(s))
			isParsed(t, "["+s+"~]", one("~"+s))
			isParsed(t, "[~"+s+"]", one("~"+s))
		}
	}
}

func TestEachTwoBytesWithADashBetween(t *testing.T) {
	for low := range 256 {
		for high := range 256 {
			for _, s := range twoBytes(string([]byte{byte(low)}), string([]byte{byte(high)})) {
				if low > high {
					isRefused(t, s, api.ErrRegex)
				} else {
					isParsed(t, s, span(byte(low), byte(high)))
				}
			}
		}
	}
}

// twoBytes is the classes of two bytes with a - between, with and without backslashes, as far as they are such classes.
func twoBytes(low, high string) []string {
	out := []string{"[\\" + low + "-\\" + high + "]"}
	plainLow, plainHigh := !strings.Contains("]\\^", low), !strings.Contains("]\\", high)
	if plainLow {
		out = append(out, "["+low+"-\\"+high+"]")
	}
	if plainHigh {
		out = append(out, "[\\"+low+"-"+high+"]")
	}
	if plainLow && plainHigh {
		out = append(out, "["+low+"-"+high+"]")
	}
	return out
}

// P7.1: how long a text may be, and which error comes first

func TestHowLongATextMayBe(t *testing.T) {
	most := api.MaxRegex
	areParsed(t, []parsed{
		{strings.Repeat("a", most-1), row(strings.Repeat("a", most-1))},
		{strings.Repeat("a", most), row(strings.Repeat("a", most))},
		{strings.Repeat("\\(", most/2), row(strings.Repeat("(", most/2))},
		{strings.Repeat("|", most), alt(make([]rex.Node, most+1)...)},
		{"(" + strings.Repeat("|", most-2) + ")", group(1, alt(make([]rex.Node, most-1)...))},
		{strings.Repeat("^", most), cat(slices.Repeat([]rex.Node{begin()}, most)...)},
	})
	areRefused(t, []string{
		strings.Repeat("a", most+1), strings.Repeat("|", most+1), "a" + strings.Repeat("*", most), strings.Repeat("\\(", most/2) + "a", "(" + strings.Repeat("a", most-1) + ")", "[" + strings.Repeat("a", most-1) + "]", strings.Repeat("a", 1<<20),
	}, api.ErrLong)
}

func TestWhichErrorComesFirst(t *testing.T) {
	long := strings.Repeat("a", api.MaxRegex)
	areRefused(t, []string{
		strings.Repeat("(", api.MaxRegex+1), long + ")", "*" + long, long + "\\", "[" + long, "[]" + long, "[b-a]" + long, strings.Repeat("()", 31), strings.Repeat("()", 31) + ")", "(" + strings.Repeat("()", 31),
	}, api.ErrLong)
	groups := strings.Repeat("()", api.MaxGroups+1)
	areRefused(t, []string{
		groups + ")", groups + "(", groups + "|*", groups + "[]", groups + "[", groups + "\\", groups + "[b-a]", ")" + groups, "*" + groups, "(" + groups, groups + "**(", "[]" + groups, strings.Repeat("(", api.MaxGroups+1), strings.Repeat("(", 30) + strings.Repeat(")", 29), strings.Repeat("()", 29) + "[]", strings.Repeat("()", 29) + "a)",
	}, api.ErrRegex)
	areRefused(t, []string{groups, groups + "*", groups + "|", groups + "\\(", "a" + groups, strings.Repeat("()", 29) + "aa"}, api.ErrFull)
}

// P7.1: Groups, Size, Same and Word

// anyNodes is nodes of every kind, of kinds that there aren't, and with what their kinds don't have, each unlike all others.
func anyNodes() []rex.Node {
	a, b := one("a"), one("b")
	return []rex.Node{
		empty(), a, b, one("ab"), point(), of(class.All()), {Kind: rex.One}, cat(a, b), cat(b, a), cat(a, a), cat(a, b, a), cat(a), {Kind: rex.Cat},
		alt(a, b), alt(b, a), alt(a, a), alt(a, b, a), alt(empty(), empty()), alt(a), {Kind: rex.Alt}, star(a), star(b), plus(a), plus(b), maybe(a), maybe(b), {Kind: rex.Star}, {Kind: rex.Plus}, {Kind: rex.Maybe},
		group(1, a), group(2, a), group(1, b), group(1, empty()), group(0, a), group(-1, a), {Kind: rex.Group}, {Kind: rex.Group, Index: 1}, begin(), end(),
		star(star(a)), star(plus(a)), plus(star(a)), maybe(group(1, a)), group(1, maybe(a)), group(1, group(2, a)), group(2, group(1, a)), cat(group(1, a), group(2, b)), cat(group(2, a), group(1, b)), alt(group(1, a), group(1, a)),
		cat(alt(a, b), star(cat(a, b))), cat(alt(a, b), star(cat(b, a))), cat(alt(a, b), plus(cat(a, b))), alt(cat(a, b), cat(a, b)), cat(cat(a, b), a), cat(a, cat(b, a)),
		{Kind: -1}, {Kind: 10}, {Kind: 1 << 40}, {Kind: -1, Kids: []rex.Node{group(1, a)}}, {Kind: 10, Index: 3, Set: class.All(), Kids: []rex.Node{a, b}},
		{Kind: rex.Empty, Index: 1}, {Kind: rex.Empty, Set: class.Of(0)}, {Kind: rex.Empty, Kids: []rex.Node{a}}, {Kind: rex.One, Index: 1, Set: class.Of('a')}, {Kind: rex.One, Set: class.Of('a'), Kids: []rex.Node{group(1, a), group(1, a)}},
		{Kind: rex.Group, Index: 1, Kids: []rex.Node{a, b}}, {Kind: rex.Star, Kids: []rex.Node{group(1, a), group(2, b)}}, {Kind: rex.Begin, Kids: []rex.Node{end()}}, {Kind: rex.End, Index: 7}, {Kind: rex.Begin, Set: class.Of('a')}, {Kind: rex.Cat, Set: class.Of('a'), Kids: []rex.Node{a, b}}, {Kind: rex.Cat, Index: 1, Kids: []rex.Node{a, b}},
	}
}

func TestGroupsAndSize(t *testing.T) {
	a := one("a")
	for _, c := range []struct {
		n            rex.Node
		groups, size int
	}{
		{empty(), 0, 1}, {a, 0, 1}, {begin(), 0, 1}, {end(), 0, 1}, {point(), 0, 1}, {cat(a, a), 0, 3}, {alt(a, a, a), 0, 4}, {star(a), 0, 2}, {plus(a), 0, 2}, {maybe(a), 0, 2},
		{group(1, a), 1, 2}, {group(1, empty()), 1, 2}, {group(1, group(2, a)), 2, 3}, {cat(group(1, a), group(2, a)), 2, 5}, {alt(a, group(1, star(a))), 1, 5}, {star(plus(maybe(group(1, a)))), 1, 5},
		{group(7, a), 1, 2}, {cat(group(3, a), group(3, a)), 2, 5}, {group(0, a), 1, 2}, {rex.Node{Kind: rex.Group}, 1, 1}, {nested(1, 20, a), 20, 21},
		{rex.Node{Kind: 10}, 0, 1}, {rex.Node{Kind: -1, Kids: []rex.Node{group(1, a), a}}, 1, 4}, {rex.Node{Kind: rex.One, Kids: []rex.Node{group(1, a), group(1, a)}}, 2, 5}, {rex.Node{Kind: rex.Group, Kids: []rex.Node{group(1, a), group(1, a)}}, 3, 5},
		{rex.Node{Kind: rex.Empty, Index: 9}, 0, 1}, {rex.Node{Kind: rex.Cat, Kids: []rex.Node{}}, 0, 1}, {alt(make([]rex.Node, 1000)...), 0, 1001},
	} {
		if rex.Groups(c.n) != c.groups || rex.Size(c.n) != c.size {
			t.Errorf("%s: %d groups, %d nodes", told(c.n), rex.Groups(c.n), rex.Size(c.n))
		}
	}
	for s, want := range map[string][2]int{"": {0, 1}, "a": {0, 1}, "a|(b*)c": {1, 7}, "((a)|b)+(c|)": {3, 11}, "[(]\\(": {0, 3}, "()()()()()()()()()": {9, 19}} {
		n, err := rex.Parse(s)
		if err != nil || rex.Groups(n) != want[0] || rex.Size(n) != want[1] {
			t.Errorf("%q: %d groups, %d nodes, %v", s, rex.Groups(n), rex.Size(n), err)
		}
	}
}

func TestSame(t *testing.T) {
	list := anyNodes()
	for i, a := range list {
		for j, b := range list {
			if rex.Same(a, b) != (i == j) {
				t.Errorf("Same of %s and %s: %t", told(a), told(b), rex.Same(a, b))
			}
			if rex.Same(a, copied(b)) != (i == j) || rex.Same(star(group(1, cat(a, a))), star(group(1, cat(a, copied(b))))) != (i == j) {
				t.Errorf("Same of %s and a copy of %s isn't %t", told(a), told(b), i == j)
			}
		}
	}
	for _, kind := range []int{rex.Empty, rex.Cat, rex.Group, 10, -1} {
		nothing, none := rex.Node{Kind: kind}, rex.Node{Kind: kind, Kids: []rex.Node{}}
		if !rex.Same(nothing, none) || !rex.Same(none, nothing) || !rex.Same(cat(none, none), cat(nothing, nothing)) {
			t.Errorf("nodes of kind %d without kids aren't the same", kind)
		}
	}
}

func TestSameOfNodesThatDifferInOneBit(t *testing.T) {
	whole := class.Of([]byte("az\x00\x3f\x40\x80\xbf\xc0\xff")...)
	for b := range 256 {
		other := whole
		other[b/64] ^= 1 << (b % 64)
		for _, in := range []func(rex.Node) rex.Node{func(n rex.Node) rex.Node { return n }, star, func(n rex.Node) rex.Node { return cat(n, n) }} {
			if rex.Same(in(of(whole)), in(of(other))) || !rex.Same(in(of(other)), in(of(other))) {
				t.Errorf("Same of sets that differ in byte %d", b)
			}
		}
	}
}

func TestSameOfKindsAndIndexes(t *testing.T) {
	numbers := []int{-1 << 63, -1, 0, 1, 2, 3, 4, 5, 6, 7, 8, 9, 10, 11, 255, 256, 1 << 32, 1<<63 - 1}
	for _, a := range numbers {
		for _, b := range numbers {
			if rex.Same(rex.Node{Kind: a}, rex.Node{Kind: b}) != (a == b) || rex.Same(group(a, empty()), group(b, empty())) != (a == b) {
				t.Errorf("Same of kinds, or indexes, %d and %d isn't %t", a, b, a == b)
			}
		}
	}
}

func TestKindsAndWords(t *testing.T) {
	kinds := []int{rex.Empty, rex.One, rex.Cat, rex.Alt, rex.Star, rex.Plus, rex.Maybe, rex.Group, rex.Begin, rex.End}
	for i, word := range strings.Fields("empty one cat alt star plus maybe group begin end") {
		if kinds[i] != i || rex.Word(kinds[i]) != word {
			t.Errorf("kind %s is %d, and its word is %q", word, kinds[i], rex.Word(kinds[i]))
		}
	}
	for _, kind := range []int{-1, 10, 11, -10, 64, 255, 256, 257, 1 << 31, 1 << 32, 1<<63 - 1, -1 << 63} {
		if word := rex.Word(kind); word != "" {
			t.Errorf("the word of %d is %q", kind, word)
		}
	}
}

// P7.1 and P7.2: Literal

// allBytes is a text of every byte, rising.
func allBytes() string {
	var out []byte
	for b := range 256 {
		out = append(out, byte(b))
	}
	return string(out)
}

// literal is the node that a text's Literal should be.
func literal(s string) rex.Node {
	switch len(s) {
	case 0:
		return empty()
	case 1:
		return one(s)
	}
	return row(s)
}

// escaped is a text with a backslash ahead of each byte.
func escaped(s string) string {
	var out []byte
	for _, b := range []byte(s) {
		out = append(out, '\\', b)
	}
	return string(out)
}

func TestLiteral(t *testing.T) {
	list := []string{"", "a", "ab", "aa", "abc", "\x00", "\x00\x00", "\xff", "\xc3\xa9", "\xe2\x82\xac", ".*+?|()[]^$\\-", "\\", "\\a", "\n", "a\nb", allBytes(), strings.Repeat("a", api.MaxRegex), strings.Repeat("a", api.MaxRegex+1), strings.Repeat("xyz", 5000)}
	for b := range 256 {
		list = append(list, string([]byte{byte(b)}), string([]byte{byte(b), byte(255 - b)}))
	}
	for _, s := range list {
		if got := rex.Literal(s); !alike(got, literal(s)) {
			t.Errorf("Literal of %q is %s", s, told(got))
		}
	}
}

// isLiteral holds what a text with backslashes is parsed as against its Literal.
func isLiteral(t *testing.T, s string) {
	t.Helper()
	isParsed(t, escaped(s), literal(s))
	n, err := rex.Parse(escaped(s))
	if err != nil || !rex.Same(n, rex.Literal(s)) || rex.Groups(n) != 0 {
		t.Errorf("%q, with backslashes, is %s, %v, not its Literal", s, told(n), err)
	}
}

func TestTextsWithBackslashesAreLiteral(t *testing.T) {
	const most = api.MaxRegex / 2
	for _, s := range []string{"", "a", "ab", "aaa", "(a)", "[a-b]", "[^a]", "a|b", "|", "||", "a*+?", ".^$", "\\", "\\\\", "\\a\\", "()", "((((((((((", "[", "]", "-", "\n", "\x00\xff", "\xc3\xa9", strings.Repeat("(", most), strings.Repeat("\\", most), strings.Repeat("\xff", most), strings.Repeat("*", most-1)} {
		isLiteral(t, s)
	}
	for b := range 256 {
		s := string([]byte{byte(b)})
		for _, text := range []string{s, s + s, s + "a", "a" + s, "a" + s + "a", s + "*", "(" + s, strings.Repeat(s, most-1), strings.Repeat(s, most)} {
			isLiteral(t, text)
		}
		isRefused(t, escaped(strings.Repeat(s, most+1)), api.ErrLong)
		isRefused(t, escaped(strings.Repeat(s, most))+s, api.ErrLong)
	}
	all := allBytes()
	for from := 0; from < len(all); from++ {
		isLiteral(t, all[from:min(from+most, len(all))])
	}
}

func TestTwoBytesWithBackslashesAreLiteral(t *testing.T) {
	for a := range 256 {
		for b := range 256 {
			s := string([]byte{byte(a), byte(b)})
			isParsed(t, escaped(s), row(s))
		}
	}
}

// Rules for every call

// texts is texts that are parsed, of all kinds.
func texts() []string {
	return []string{"", "a", "ab", "a|b", "|", "(a)", "((a)|b*)+(c|d?)", "[a-c]", "[^a]*", ".+", "^a$", "()", "a**", "(a|(b|(c|d)))", "abcdefgh", "a|b|c|d|e", "(ab|cd|(ef|gh)*)+ij", "\\(\\)"}
}

func TestTheSameEachTime(t *testing.T) {
	for _, s := range texts() {
		first, err := rex.Parse(s)
		if err != nil {
			t.Fatalf("Parse of %q: %v", s, err)
		}
		isParsed(t, s, first)
		isParsed(t, s, first)
	}
}

// overwritten writes over a node, with all that it has in it, and the room behind.
func overwritten(n *rex.Node) {
	kids := n.Kids[:cap(n.Kids)]
	for i := range kids {
		overwritten(&kids[i])
	}
	*n = rex.Node{Kind: 77, Index: 77, Set: class.All(), Kids: nil}
}

func TestAnswersAreTheCallers(t *testing.T) {
	for _, s := range texts() {
		first, _ := rex.Parse(s)
		second, _ := rex.Parse(s)
		kept := copied(second)
		overwritten(&first)
		if !alike(second, kept) {
			t.Errorf("two nodes of %q share their room", s)
		}
		isParsed(t, s, kept)
		one, other := rex.Literal(s), rex.Literal(s)
		overwritten(&one)
		if !alike(other, literal(s)) || !alike(rex.Literal(s), literal(s)) {
			t.Errorf("two Literals of %q share their room", s)
		}
	}
}

// places adds the addresses of all nodes in a node's lists, with the room behind them.
func places(n rex.Node, seen map[*rex.Node]int) {
	kids := n.Kids[:cap(n.Kids)]
	for i := range kids {
		seen[&kids[i]]++
		places(kids[i], seen)
	}
}

func TestListsOfOneAnswerAreApart(t *testing.T) {
	for _, s := range texts() {
		seen := make(map[*rex.Node]int)
		n, _ := rex.Parse(s)
		places(n, seen)
		for _, times := range seen {
			if times != 1 {
				t.Errorf("two lists in the node of %q share their room", s)
			}
		}
	}
}

func TestNoCallChangesANode(t *testing.T) {
	room := []rex.Node{group(1, one("a")), star(one("b")), one("c"), one("d")}
	list := append(anyNodes(), cat(room[:2]...), rex.Node{Kind: rex.Alt, Kids: room[:3]}, rex.Node{Kind: rex.Empty, Kids: room[:0]})
	kept := copied(cat(list...))
	for i, n := range list {
		rex.Groups(n)
		rex.Size(n)
		rex.Same(n, n)
		rex.Same(n, list[(i+1)%len(list)])
	}
	if !alike(cat(list...), kept) {
		t.Errorf("a node was changed: %s", told(cat(list...)))
	}
	if !alike(cat(room...), cat(group(1, one("a")), star(one("b")), one("c"), one("d"))) {
		t.Errorf("the room behind a list was changed: %s", told(cat(room...)))
	}
}

func TestDeepNodes(t *testing.T) {
	n, other := one("a"), one("b")
	for range 1 << 16 {
		n, other = group(1, n), group(1, other)
	}
	if rex.Groups(n) != 1<<16 || rex.Size(n) != 1<<16+1 || !rex.Same(n, n) || rex.Same(n, other) {
		t.Errorf("a deep node: %d groups, %d nodes", rex.Groups(n), rex.Size(n))
	}
}
