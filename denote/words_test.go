package denote_test

import (
	"strings"
	"testing"

	"millwright/api"
	"millwright/denote"
	"millwright/pike"
	"millwright/prog"
	"millwright/rex"
)

// relation is the chapter's words by all places of a text at one time: to each place the places to which a node spans the text from there, each a bit.
type relation []uint64

func relationOf(n rex.Node, s string) relation {
	out := make(relation, len(s)+1)
	same := func() relation {
		for p := range out {
			out[p] = 1 << p
		}
		return out
	}
	switch n.Kind {
	case 0:
		return same()
	case 1:
		for p := range len(s) {
			if n.Set.Has(s[p]) {
				out[p] = 1 << (p + 1)
			}
		}
	case 2:
		same()
		for _, kid := range n.Kids {
			out = out.then(relationOf(kid, s))
		}
	case 3:
		for _, kid := range n.Kids {
			out = out.or(relationOf(kid, s))
		}
	case 4:
		return same().or(relationOf(n.Kids[0], s)).round()
	case 5:
		kid := relationOf(n.Kids[0], s)
		return kid.then(same().or(kid).round())
	case 6:
		return same().or(relationOf(n.Kids[0], s))
	case 7:
		return relationOf(n.Kids[0], s)
	case 8:
		out[0] = 1
	case 9:
		out[len(s)] = 1 << len(s)
	}
	return out
}

// then is one relation behind the other.
func (r relation) then(next relation) relation {
	out := make(relation, len(r))
	for from, row := range r {
		for between := range next {
			if row>>between&1 == 1 {
				out[from] |= next[between]
			}
		}
	}
	return out
}

// or is what is in one of two relations.
func (r relation) or(other relation) relation {
	out := make(relation, len(r))
	for from := range r {
		out[from] = r[from] | other[from]
	}
	return out
}

// round is a relation that has all places with themselves, any number of times: as often as there are places is enough.
func (r relation) round() relation {
	out := r
	for range r {
		out = out.then(r)
	}
	return out
}

// has tells whether a relation has a place with another one.
func (r relation) has(from, to int) bool { return r[from]>>to&1 == 1 }

// places is the places to which a relation leads from a place on, rising.
func (r relation) places(from int) []int {
	var out []int
	for to := range r {
		if r.has(from, to) {
			out = append(out, to)
		}
	}
	return out
}

// endsAreOfTheWords holds Ends and In of a node and a text against its relation.
func endsAreOfTheWords(t *testing.T, n rex.Node, s string) relation {
	t.Helper()
	r := relationOf(n, s)
	for from := range len(s) + 1 {
		areEnds(t, n, s, from, r.places(from))
	}
	if denote.In(n, s) != r.has(0, len(s)) {
		t.Errorf("In of %s and %q isn't %t", told(n), s, r.has(0, len(s)))
	}
	return r
}

// allIsOfTheWords holds all of a node and a text against its relation, and all of layer 9.
func allIsOfTheWords(t *testing.T, n rex.Node, s string) {
	t.Helper()
	r := endsAreOfTheWords(t, n, s)
	var rows [][]int
	for from := range len(s) + 1 {
		rows = append(rows, r.places(from))
	}
	isDenoted(t, n, s, rows)
	isMatched(t, n, s)
}

// isMatched asks for P10.2 of a node, if its program isn't too long.
func isMatched(t *testing.T, n rex.Node, s string) bool {
	t.Helper()
	p, err := prog.Compile(n)
	if err != nil {
		return false
	}
	_, is := pike.Match(p, s)
	if denote.In(n, s) != is {
		t.Errorf("%s and %s: In is %t, a match is %t", told(n), toldText(s), denote.In(n, s), is)
	}
	return is
}

// textsOf is all texts over a and b of so many bytes at most.
func textsOf(longest int) []string {
	out := []string{""}
	for i := 0; i < len(out); i++ {
		if len(out[i]) < longest {
			out = append(out, out[i]+"a", out[i]+"b")
		}
	}
	return out
}

// smallNodes is all nodes of so many nodes, over a few without kids.
func smallNodes(size int) []rex.Node {
	bySize := [][]rex.Node{nil, {empty, a, set('a', 'b'), never, begin, end}}
	for len(bySize) <= size {
		var list []rex.Node
		for _, kid := range bySize[len(bySize)-1] {
			list = append(list, star(kid), plus(kid), maybe(kid), group(2, kid))
		}
		for _, kids := range rowsOfNodes(bySize, len(bySize)-1) {
			if len(kids) > 1 {
				list = append(list, node(rex.Cat, kids...), node(rex.Alt, kids...))
			}
		}
		bySize = append(bySize, list)
	}
	return bySize[size]
}

// rowsOfNodes is all rows of nodes that have so many nodes together.
func rowsOfNodes(bySize [][]rex.Node, size int) [][]rex.Node {
	if size == 0 {
		return [][]rex.Node{nil}
	}
	var out [][]rex.Node
	for first := 1; first <= size && first < len(bySize); first++ {
		for _, n := range bySize[first] {
			for _, rest := range rowsOfNodes(bySize, size-first) {
				out = append(out, append([]rex.Node{n}, rest...))
			}
		}
	}
	return out
}

// maker makes nodes, expressions and texts without a plan, the same ones each time.
type maker struct {
	state uint64
}

func (m *maker) below(n int) int {
	m.state ^= m.state << 13
	m.state ^= m.state >> 7
	m.state ^= m.state << 17
	return int(m.state >> 33 % uint64(n))
}

// node makes a node of so many levels at most.
func (m *maker) node(levels int) rex.Node {
	if levels == 0 || m.below(6) == 0 {
		return []rex.Node{a, b, a, b, set('a', 'b'), any1, empty, never, begin, end}[m.below(10)]
	}
	kind := []int{rex.Cat, rex.Cat, rex.Cat, rex.Alt, rex.Alt, rex.Star, rex.Plus, rex.Maybe, rex.Group}[m.below(9)]
	n := node(kind, m.node(levels-1))
	if kind == rex.Group {
		n.Index = 1 + m.below(api.MaxGroups)
	}
	if kind == rex.Cat || kind == rex.Alt {
		for range 1 + m.below(3) {
			n.Kids = append(n.Kids, m.node(levels-1))
		}
	}
	return n
}

func (m *maker) text(longest int) string {
	s := make([]byte, m.below(longest+1))
	for i := range s {
		s[i] = "aaaabbbb\n\xff"[m.below(10)]
	}
	return string(s)
}

// expression writes an expression.
func (m *maker) expression(levels int) string {
	if levels == 0 {
		return []string{"a", "b", "a", "b", ".", "[ab]", "[^b]", "", "^", "$", "\\\n", "a"}[m.below(12)]
	}
	part := func() string { return m.expression(levels - 1 - m.below(levels)) }
	switch m.below(6) {
	case 0:
		return part() + "|" + part()
	case 1:
		return "(" + part() + ")" + []string{"*", "+", "?", "*+"}[m.below(4)]
	case 2:
		return "(" + part() + ")"
	}
	return part() + part()
}

// P10.1 and P10.2: nodes of every shape, held against the chapter's words and against layer 9

func TestAllSmallNodes(t *testing.T) {
	for size := 1; size <= 3; size++ {
		for _, n := range smallNodes(size) {
			for _, s := range textsOf(3) {
				allIsOfTheWords(t, n, s)
			}
		}
	}
	for _, n := range smallNodes(4) {
		for _, s := range []string{"", "a", "ab", "aab"} {
			endsAreOfTheWords(t, n, s)
			isMatched(t, n, s)
		}
	}
}

func TestNodesWithoutAPlan(t *testing.T) {
	m := &maker{state: 88172645463325252}
	matches := 0
	for i := range 12000 {
		n := m.node(1 + i%6)
		for range 3 {
			s := m.text(12)
			endsAreOfTheWords(t, n, s)
			if isMatched(t, n, s) {
				matches++
			}
			if i%10 == 0 {
				allIsOfTheWords(t, n, s)
			}
		}
	}
	if matches < 2000 {
		t.Errorf("%d matches alone", matches)
	}
}

// P10.2: expressions of every shape

// isMatchedWhole asks for P10.2 of an expression, and whether its texts are those of the words.
func isMatchedWhole(t *testing.T, expression string, n rex.Node, s string) bool {
	t.Helper()
	is, err := pike.Whole(expression, s)
	if err != nil || denote.In(n, s) != is {
		t.Errorf("%q and %s: In is %t, layer 9 has %t, %v", expression, toldText(s), denote.In(n, s), is, err)
	}
	return is
}

func TestAllShortExpressions(t *testing.T) {
	texts, expressions := textsOf(3), 0
	var each func(s string, more int)
	each = func(s string, more int) {
		if n, err := rex.Parse(s); err == nil {
			expressions++
			for _, text := range texts {
				isMatchedWhole(t, s, n, text)
				endsAreOfTheWords(t, n, text)
			}
		}
		for i := 0; i < 9 && more > 0; i++ {
			each(s+"ab()|*+^$"[i:i+1], more-1)
		}
	}
	each("", 4)
	if expressions < 1000 {
		t.Errorf("%d expressions alone", expressions)
	}
}

func TestExpressionsWithoutAPlan(t *testing.T) {
	m := &maker{state: 2463534242}
	held, matches := 0, 0
	for i := range 4000 {
		s := m.expression(2 + i%5)
		n, err := rex.Parse(s)
		if err != nil {
			continue
		}
		held++
		for _, text := range append(textsOf(2), m.text(9), m.text(9), m.text(9)) {
			if isMatchedWhole(t, s, n, text) {
				matches++
			}
			endsAreOfTheWords(t, n, text)
		}
	}
	if held < 3000 || matches < 3000 {
		t.Errorf("%d expressions, %d matches alone", held, matches)
	}
}

func TestExpressionsAsTheyAreWritten(t *testing.T) {
	for expression, texts := range map[string]string{
		"(.*)\\.o":         "a.o,.o,a.c,a.o.o,a.oo,",
		"lib(.*)\\.a\\(.*": "libx.a(y.o),libx.a,lib.a(",
		"[a-c]+[^a-c]?":    "a,abcd,abcdd,d,cab\n,",
		"(a|b)*abb":        "abb,aabb,ababb,ab,abbb,babb",
		"(ab|a)(bc|c)?$":   "a,ab,abc,abbc,abcc,ac",
		"^(^a|b$)+$":       "a,b,ab,ba,aa,",
		"\\*\\**":          "*,**,,a",
	} {
		for _, s := range strings.Split(texts, ",") {
			isMatchedWhole(t, expression, parsed(t, expression), s)
		}
	}
}

func TestTextsOfBytesOfEveryValue(t *testing.T) {
	var all strings.Builder
	for b := range 256 {
		all.WriteByte(byte(b))
		for expression, is := range map[string]bool{".": b != '\n', "[\x00-\xff]": true, "[^\x00-\xff]": false, "[^\n]": b != '\n', "[a-z]": 'a' <= b && b <= 'z', "\\" + string([]byte{byte(b)}): true} {
			s := string([]byte{byte(b)})
			isIn(t, parsed(t, expression), s, is)
			isMatchedWhole(t, expression, parsed(t, expression), s)
		}
	}
	for _, expression := range []string{"[\x00-\xff]*", ".*", "[^\xff]*\xff", "(.|\n)*", "[^\x00-\xff]*", "[\x00-~]+[\x7f-\xff]+"} {
		isMatchedWhole(t, expression, parsed(t, expression), all.String())
	}
}
