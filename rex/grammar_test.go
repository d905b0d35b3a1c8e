package rex_test

import (
	"strings"
	"testing"

	"millwright/api"
	"millwright/class"
	"millwright/rex"
)

// made is a text that the grammar makes, and the nodes that it stands for, one behind the other.
type made struct {
	text  string
	nodes []rex.Node
}

// grammar is all texts over an alphabet, by their lengths, as they come to be by the chapter's words: nothing is read here, so that what Parse reads can be held against it.
type grammar struct {
	alphabet string
	// A row of members is no class yet: it has no brackets around it.
	rows                         [][][]member
	atoms, items, branches, alts [][]made
}

// member is a member of a class.
type member struct {
	text string
	set  class.Set
	two  bool // with a - between
}

// grown is the grammar of texts of so many bytes at most.
func grown(alphabet string, longest int) *grammar {
	g := &grammar{alphabet: alphabet}
	for n := range longest + 1 {
		g.rows = append(g.rows, g.rowsOf(n))
		g.atoms = append(g.atoms, g.atomsOf(n))
		g.items = append(g.items, g.itemsOf(n))
		g.branches = append(g.branches, g.branchesOf(n))
		g.alts = append(g.alts, g.altsOf(n))
	}
	return g
}

// has tells whether the alphabet has all bytes of a text.
func (g *grammar) has(text string) bool {
	return strings.Trim(text, g.alphabet) == ""
}

// plain is the alphabet's bytes but these.
func (g *grammar) plain(but string) []string {
	var out []string
	for _, b := range []byte(g.alphabet) {
		if strings.IndexByte(but, b) < 0 {
			out = append(out, string([]byte{b}))
		}
	}
	return out
}

// quoted is a backslash and any byte, of each byte of the alphabet.
func (g *grammar) quoted() []string {
	var out []string
	for _, s := range g.plain("") {
		if g.has("\\") {
			out = append(out, "\\"+s)
		}
	}
	return out
}

// membersOf is all members of n bytes.
func (g *grammar) membersOf(n int) []member {
	var out []member
	bytes := append(g.plain("]\\"), g.quoted()...)
	for _, low := range bytes {
		if len(low) == n {
			out = append(out, member{text: low, set: class.Of(low[len(low)-1])})
		}
		for _, high := range bytes {
			from, to := low[len(low)-1], high[len(high)-1]
			if len(low)+1+len(high) == n && from <= to && g.has("-") {
				out = append(out, member{text: low + "-" + high, set: class.Span(from, to), two: true})
			}
		}
	}
	return out
}

// rowsOf is all rows of members of n bytes, one member at least, that may be read so.
func (g *grammar) rowsOf(n int) [][]member {
	var out [][]member
	for length := 1; length <= n; length++ {
		for _, first := range g.membersOf(length) {
			if length == n {
				out = append(out, []member{first})
				continue
			}
			for _, rest := range g.rows[n-length] {
				if mayFollow(first, rest) {
					out = append(out, append([]member{first}, rest...))
				}
			}
		}
	}
	return out
}

// mayFollow tells whether a member is read as itself ahead of others: a - behind a byte makes two of it, but where the class ends behind that -.
func mayFollow(first member, rest []member) bool {
	last := len(rest) == 1 && rest[0].text == "-"
	return first.two || last || !strings.HasPrefix(rest[0].text, "-")
}

// classesOf is all classes of n bytes.
func (g *grammar) classesOf(n int) []made {
	var out []made
	if n < 3 || !g.has("[]") {
		return nil
	}
	for _, row := range g.rows[n-2] {
		if !strings.HasPrefix(row[0].text, "^") {
			text, set := together(row)
			out = append(out, made{"[" + text + "]", []rex.Node{of(set)}})
		}
	}
	for _, row := range g.rows[n-3] {
		if g.has("^") {
			text, set := together(row)
			out = append(out, made{"[^" + text + "]", []rex.Node{of(set.Not())}})
		}
	}
	return out
}

// together is the text and the set of a row of members.
func together(row []member) (string, class.Set) {
	var text string
	var set class.Set
	for _, m := range row {
		text, set = text+m.text, set.Union(m.set)
	}
	return text, set
}

// atomsOf is all atoms of n bytes.
func (g *grammar) atomsOf(n int) []made {
	out := g.classesOf(n)
	for text, node := range map[string]rex.Node{".": point(), "^": begin(), "$": end()} {
		if n == 1 && g.has(text) {
			out = append(out, made{text, []rex.Node{node}})
		}
	}
	for _, text := range append(g.plain(special), g.quoted()...) {
		if len(text) == n {
			out = append(out, made{text, []rex.Node{one(text[n-1:])}})
		}
	}
	if n >= 2 && g.has("()") {
		for _, in := range g.alts[n-2] {
			out = append(out, made{"(" + in.text + ")", []rex.Node{group(0, folded(rex.Alt, in.nodes))}})
		}
	}
	return out
}

// itemsOf is all items of n bytes.
func (g *grammar) itemsOf(n int) []made {
	out := g.atoms[n]
	for text, in := range map[string]func(rex.Node) rex.Node{"*": star, "+": plus, "?": maybe} {
		if n >= 1 && g.has(text) {
			for _, item := range g.items[n-1] {
				out = append(out, made{item.text + text, []rex.Node{in(item.nodes[0])}})
			}
		}
	}
	return out
}

// branchesOf is all branches of n bytes, with their items.
func (g *grammar) branchesOf(n int) []made {
	if n == 0 {
		return []made{{}}
	}
	var out []made
	for length := 1; length <= n; length++ {
		for _, item := range g.items[length] {
			for _, rest := range g.branches[n-length] {
				out = append(out, made{item.text + rest.text, append([]rex.Node{item.nodes[0]}, rest.nodes...)})
			}
		}
	}
	return out
}

// altsOf is all expressions of n bytes, with their branches.
func (g *grammar) altsOf(n int) []made {
	var out []made
	for length := range n + 1 {
		for _, branch := range g.branches[length] {
			node := folded(rex.Cat, branch.nodes)
			if length == n {
				out = append(out, made{branch.text, []rex.Node{node}})
				continue
			}
			for _, rest := range g.alts[n-length-1] {
				if g.has("|") {
					out = append(out, made{branch.text + "|" + rest.text, append([]rex.Node{node}, rest.nodes...)})
				}
			}
		}
	}
	return out
}

// folded is nodes as one: of one node that one, of none Empty.
func folded(kind int, nodes []rex.Node) rex.Node {
	if len(nodes) == 0 {
		return empty()
	}
	if len(nodes) == 1 {
		return nodes[0]
	}
	return rex.Node{Kind: kind, Kids: nodes}
}

// numbered is a node with its groups counted by their opening brackets.
func numbered(n rex.Node, opened *int) rex.Node {
	if n.Kind == rex.Group {
		*opened++
		n.Index = *opened
	}
	var kids []rex.Node
	for _, kid := range n.Kids {
		kids = append(kids, numbered(kid, opened))
	}
	n.Kids = kids
	return n
}

// eachText goes through all texts of n bytes over an alphabet.
func eachText(alphabet string, n int, done func(string)) {
	if n == 0 {
		done("")
		return
	}
	eachText(alphabet, n-1, func(s string) {
		for i := range len(alphabet) {
			done(s + alphabet[i:i+1])
		}
	})
}

// isOfTheGrammar holds all texts of so many bytes at most over an alphabet against the grammar, and answers how many are expressions, and how many aren't.
func isOfTheGrammar(t *testing.T, alphabet string, longest int) (expressions, others int) {
	t.Helper()
	g := grown(alphabet, longest)
	for n := range longest + 1 {
		want := make(map[string]rex.Node)
		for _, m := range g.alts[n] {
			if _, twice := want[m.text]; twice || len(m.text) != n {
				t.Fatalf("the grammar of %q makes %q twice", alphabet, m.text)
			}
			opened := 0
			want[m.text] = numbered(folded(rex.Alt, m.nodes), &opened)
		}
		eachText(alphabet, n, func(s string) {
			if node, is := want[s]; is {
				expressions++
				isParsed(t, s, node)
			} else {
				others++
				isRefused(t, s, api.ErrRegex)
			}
		})
	}
	return expressions, others
}

// P7.1: all short texts

func TestAllShortTexts(t *testing.T) {
	for _, c := range []struct {
		alphabet string
		longest  int
	}{
		{"a()|*+?", 6}, {"a()|*", 7}, {"()|", 9}, {"ab|", 8}, {"a(*", 8}, {"a*+?", 8},
		{"a-^[]\\", 6}, {"ab-[]", 7}, {"-[]", 9}, {"^[]", 9}, {"-[]^", 8}, {"\\[]-", 8}, {"\\[]a", 8}, {"\\()a", 7},
		{"()[]|a", 6}, {".^$\n[]", 6}, {"\x00\xff-[]^", 6}, {"\\()[]|*^-a", 5}, {"a.^$\\()[]|*+?-\n\xc3", 4},
	} {
		expressions, others := isOfTheGrammar(t, c.alphabet, c.longest)
		if expressions == 0 || others == 0 && strings.ContainsAny(c.alphabet, "[]\\()*+?") {
			t.Errorf("the grammar of %q has %d expressions, and %d texts are none", c.alphabet, expressions, others)
		}
	}
}

// maker makes long expressions without a plan, the same ones each time.
type maker struct {
	state  uint64
	groups int
}

func (m *maker) below(n int) int {
	m.state ^= m.state << 13
	m.state ^= m.state >> 7
	m.state ^= m.state << 17
	return int(m.state >> 33 % uint64(n))
}

func (m *maker) anyByte(but string) string {
	for {
		s := string([]byte{byte(m.below(256))})
		if !strings.Contains(but, s) {
			return s
		}
	}
}

// expression is one of room bytes at most.
func (m *maker) expression(room int) made {
	out := m.branch(room)
	nodes := []rex.Node{folded(rex.Cat, out.nodes)}
	for len(out.text) < room && m.below(2) == 0 {
		next := m.branch(room - len(out.text) - 1)
		out.text += "|" + next.text
		nodes = append(nodes, folded(rex.Cat, next.nodes))
	}
	return made{out.text, []rex.Node{folded(rex.Alt, nodes)}}
}

func (m *maker) branch(room int) made {
	var out made
	for len(out.text) < room && m.below(6) != 0 {
		item := m.item(room - len(out.text))
		out.text += item.text
		out.nodes = append(out.nodes, item.nodes...)
	}
	return out
}

func (m *maker) item(room int) made {
	out := m.atom(room)
	for len(out.text) < room && m.below(3) == 0 {
		switch m.below(3) {
		case 0:
			out = made{out.text + "*", []rex.Node{star(out.nodes[0])}}
		case 1:
			out = made{out.text + "+", []rex.Node{plus(out.nodes[0])}}
		default:
			out = made{out.text + "?", []rex.Node{maybe(out.nodes[0])}}
		}
	}
	return out
}

func (m *maker) atom(room int) made {
	switch kind := m.below(8); {
	case kind <= 1 && room >= 2:
		m.groups++
		in := m.expression(room - 2)
		return made{"(" + in.text + ")", []rex.Node{group(0, in.nodes[0])}}
	case kind == 2 && room >= 4:
		return m.class(room)
	case kind == 3 && room >= 2:
		s := m.anyByte("")
		return made{"\\" + s, []rex.Node{one(s)}}
	case kind == 4:
		return []made{{".", []rex.Node{point()}}, {"^", []rex.Node{begin()}}, {"$", []rex.Node{end()}}}[m.below(3)]
	}
	s := m.anyByte(special)
	return made{s, []rex.Node{one(s)}}
}

// class is one of 4 bytes at least, and room at most.
func (m *maker) class(room int) made {
	row := []member{{text: "\\^", set: class.Of('^')}}
	for m.below(6) != 0 {
		row = append(row, m.member())
	}
	text, set := together(row)
	for len(text)+len("[]") > room {
		row = row[:len(row)-1]
		text, set = together(row)
	}
	if len(text)+len("[^]") <= room && m.below(2) == 0 {
		return made{"[^" + text + "]", []rex.Node{of(set.Not())}}
	}
	return made{"[" + text + "]", []rex.Node{of(set)}}
}

func (m *maker) member() member {
	low, high := m.anyByte("]\\-"), m.anyByte("]\\")
	if m.below(2) == 0 && low <= high {
		return member{text: low + "-" + high, set: class.Span(low[0], high[0]), two: true}
	}
	return member{text: low, set: class.Of(low[0])}
}

func TestLongTexts(t *testing.T) {
	m := &maker{state: 1}
	full, long := 0, 0
	for range 20000 {
		m.groups = 0
		e := m.expression(api.MaxRegex)
		if m.groups > api.MaxGroups {
			full++
			isRefused(t, e.text, api.ErrFull)
			continue
		}
		if len(e.text) > api.MaxRegex/2 {
			long++
		}
		opened := 0
		isParsed(t, e.text, numbered(e.nodes[0], &opened))
	}
	if full == 0 || long < 1000 {
		t.Errorf("%d texts have too many groups, and %d are long", full, long)
	}
}

// isOfItsForm asks of a node what is so of each that is parsed, whatever its text: the kids that its kind may have, and nothing that it hasn't.
func isOfItsForm(t *testing.T, n rex.Node, above int, opened *int) {
	t.Helper()
	right := n.Set == class.Set{} || n.Kind == rex.One
	index := 0
	switch n.Kind {
	case rex.Empty:
		right = right && len(n.Kids) == 0 && (above == rex.Group || above == rex.Alt)
	case rex.One, rex.Begin, rex.End:
		right = right && len(n.Kids) == 0
	case rex.Cat:
		right = right && len(n.Kids) >= 2 && (above == rex.Group || above == rex.Alt)
	case rex.Alt:
		right = right && len(n.Kids) >= 2 && above == rex.Group
	case rex.Group:
		*opened++
		index = *opened
		right = right && len(n.Kids) == 1
	case rex.Star, rex.Plus, rex.Maybe:
		right = right && len(n.Kids) == 1
	default:
		right = false
	}
	if !right || n.Index != index {
		t.Errorf("a node that is parsed isn't of its form: %s", told(n))
	}
	for _, kid := range n.Kids {
		isOfItsForm(t, kid, n.Kind, opened)
	}
}

func FuzzTexts(f *testing.F) {
	for _, s := range append(texts(), "[a-", "[]", "(", ")", "*", "\\", "[b-a]", strings.Repeat("()", 10), strings.Repeat("a", 61), allBytes()[:60]) {
		f.Add(s)
	}
	f.Fuzz(func(t *testing.T, s string) {
		n, err := rex.Parse(s)
		switch {
		case len(s) > api.MaxRegex:
			isRefused(t, s, api.ErrLong)
		case err == nil:
			opened := 0
			isOfItsForm(t, n, rex.Group, &opened)
			if rex.Groups(n) != opened || opened > api.MaxGroups || !rex.Same(n, copied(n)) {
				t.Errorf("%q has %d groups, %d are counted", s, opened, rex.Groups(n))
			}
			isParsed(t, s, n)
		}
		if len(s) <= api.MaxRegex/2 {
			isLiteral(t, s)
		}
	})
}
