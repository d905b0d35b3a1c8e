package prog_test

import (
	"strings"
	"testing"

	"millwright/api"
	"millwright/class"
	"millwright/prog"
	"millwright/rex"
)

// codeOf is the code of a right node from a place on, by the chapter's words: each place is known from the codes' lengths, none is filled in later.
func codeOf(n rex.Node, from int) []prog.Instr {
	switch n.Kind {
	case rex.One:
		return []prog.Instr{{Op: prog.Byte, Set: n.Set}}
	case rex.Cat:
		if len(n.Kids) == 1 {
			return codeOf(n.Kids[0], from)
		}
		first := codeOf(n.Kids[0], from)
		return joined(first, codeOf(node(rex.Cat, n.Kids[1:]...), from+len(first)))
	case rex.Alt:
		if len(n.Kids) == 1 {
			return codeOf(n.Kids[0], from)
		}
		first := codeOf(n.Kids[0], from+1)
		jump := from + 1 + len(first)
		rest := codeOf(node(rex.Alt, n.Kids[1:]...), jump+1)
		return joined([]prog.Instr{{Op: prog.Split, X: from + 1, Y: jump + 1}}, first, []prog.Instr{{Op: prog.Jump, X: jump + 1 + len(rest)}}, rest)
	case rex.Star:
		kid := codeOf(n.Kids[0], from+1)
		return joined([]prog.Instr{{Op: prog.Split, X: from + 1, Y: from + len(kid) + 2}}, kid, []prog.Instr{{Op: prog.Jump, X: from}})
	case rex.Plus:
		kid := codeOf(n.Kids[0], from)
		return joined(kid, []prog.Instr{{Op: prog.Split, X: from, Y: from + len(kid) + 1}})
	case rex.Maybe:
		kid := codeOf(n.Kids[0], from+1)
		return joined([]prog.Instr{{Op: prog.Split, X: from + 1, Y: from + len(kid) + 1}}, kid)
	case rex.Group:
		return joined([]prog.Instr{{Op: prog.Save, X: n.Index * 2}}, codeOf(n.Kids[0], from+1), []prog.Instr{{Op: prog.Save, X: n.Index*2 + 1}})
	case rex.Begin:
		return []prog.Instr{{Op: prog.Begin}}
	case rex.End:
		return []prog.Instr{{Op: prog.End}}
	}
	return nil
}

// programOf is the program of a right node.
func programOf(n rex.Node) []prog.Instr {
	return joined([]prog.Instr{{Op: prog.Save}}, codeOf(n, 1), []prog.Instr{{Op: prog.Save, X: 1}, {Op: prog.Match}})
}

func joined(rows ...[]prog.Instr) []prog.Instr {
	var out []prog.Instr
	for _, row := range rows {
		out = append(out, row...)
	}
	return out
}

// isOfTheWords holds all that is told of a right node against the chapter's words, and P8.2 with it.
func isOfTheWords(t *testing.T, n rex.Node) {
	t.Helper()
	code := codeOf(n, 1)
	if !prog.Right(n) || prog.Length(n) != len(code) {
		t.Errorf("%s: right: %t, a length of %d, not %d", told(n), prog.Right(n), prog.Length(n), len(code))
	}
	if len(code)+3 > api.MaxProg {
		isRefused(t, n, api.ErrFull)
		return
	}
	isCompiled(t, n, programOf(n))
}

// leaves is nodes of all kinds that have no kids.
func leaves() []rex.Node {
	return []rex.Node{empty, a, begin, end}
}

// grown is nodes of all kinds that have kids, of so many kids each of all these, one behind the other.
func grown(kids []rex.Node, most int) []rex.Node {
	var out []rex.Node
	for i, kid := range kids {
		out = append(out, node(rex.Star, kid), node(rex.Plus, kid), node(rex.Maybe, kid), group(1+i%api.MaxGroups, kid))
	}
	rows := [][]rex.Node{nil}
	for range most {
		rows = longer(rows, kids)
		for _, row := range rows {
			if len(row) > 1 {
				out = append(out, node(rex.Cat, row...), node(rex.Alt, row...))
			}
		}
	}
	return out
}

// longer is each row with each kid behind it.
func longer(rows [][]rex.Node, kids []rex.Node) [][]rex.Node {
	var out [][]rex.Node
	for _, row := range rows {
		for _, kid := range kids {
			out = append(out, append(append([]rex.Node{}, row...), kid))
		}
	}
	return out
}

// P8.1 and P8.2: each kind within each other one

func TestAllSmallNodes(t *testing.T) {
	list := append(leaves(), grown(leaves(), 4)...)
	for _, n := range list {
		isOfTheWords(t, n)
	}
	few := append(leaves(), grown(leaves(), 2)...)
	for _, n := range grown(few, 2) {
		isOfTheWords(t, n)
	}
	for _, n := range grown([]rex.Node{empty, a, node(rex.Star, a), node(rex.Alt, a, b), group(9, end)}, 5) {
		isOfTheWords(t, n)
	}
}

func TestEachKindDeepWithinEachOther(t *testing.T) {
	around := []func(rex.Node) rex.Node{
		func(n rex.Node) rex.Node { return node(rex.Cat, a, n, b) },
		func(n rex.Node) rex.Node { return node(rex.Cat, n, n) },
		func(n rex.Node) rex.Node { return node(rex.Alt, n, a) },
		func(n rex.Node) rex.Node { return node(rex.Alt, a, empty, n) },
		func(n rex.Node) rex.Node { return node(rex.Star, n) },
		func(n rex.Node) rex.Node { return node(rex.Plus, n) },
		func(n rex.Node) rex.Node { return node(rex.Maybe, n) },
		func(n rex.Node) rex.Node { return group(5, n) },
	}
	list := leaves()
	for range 4 {
		var next []rex.Node
		for _, n := range list {
			for _, in := range around {
				next = append(next, in(n))
			}
		}
		for _, n := range next {
			isOfTheWords(t, n)
		}
		list = next
	}
}

// maker makes nodes without a plan, the same ones each time.
type maker struct {
	state uint64
}

func (m *maker) below(n int) int {
	m.state ^= m.state << 13
	m.state ^= m.state >> 7
	m.state ^= m.state << 17
	return int(m.state >> 33 % uint64(n))
}

func (m *maker) node(depth int) rex.Node {
	kind := m.below(rex.End + 1)
	if depth == 0 {
		return leaves()[m.below(4)]
	}
	switch kind {
	case rex.One:
		low, high := m.below(256), m.below(256)
		return rex.Node{Kind: kind, Set: class.Span(byte(low), byte(high))}
	case rex.Cat, rex.Alt:
		kids := make([]rex.Node, 2+m.below(4))
		for i := range kids {
			kids[i] = m.node(depth - 1)
		}
		return node(kind, kids...)
	case rex.Star, rex.Plus, rex.Maybe:
		return node(kind, m.node(depth-1))
	case rex.Group:
		return group(1+m.below(api.MaxGroups), m.node(depth-1))
	}
	return node(kind)
}

func TestNodesWithoutAPlan(t *testing.T) {
	m := &maker{state: 88172645463325252}
	lengths := make(map[int]bool)
	for i := range 30000 {
		n := m.node(1 + i%6)
		isOfTheWords(t, n)
		lengths[prog.Length(n)] = true
	}
	if len(lengths) < 100 {
		t.Errorf("nodes of %d lengths alone", len(lengths))
	}
}

// P8.1 and P8.2: texts

func TestAllShortTexts(t *testing.T) {
	expressions := 0
	var each func(s string, more int)
	each = func(s string, more int) {
		n, err := rex.Parse(s)
		if err != nil {
			isRefusedOf(t, s, err)
		} else {
			expressions++
			isOfTheWords(t, n)
			isCompiledOf(t, s, programOf(n))
		}
		for i := 0; i < 11 && more > 0; i++ {
			each(s+"a()|*+?^$.\\"[i:i+1], more-1)
		}
	}
	each("", 5)
	if expressions < 10000 {
		t.Errorf("%d expressions alone", expressions)
	}
}

func TestTextsOfMaxRegexBytesHaveRoom(t *testing.T) {
	const most = api.MaxRegex
	for s, length := range map[string]int{
		strings.Repeat("a", most):                                   most,
		strings.Repeat("|", most):                                   2 * most,
		strings.Repeat("a|", most/2):                                most/2 + most,
		strings.Repeat("a*", most/2):                                most/2 + most,
		"a" + strings.Repeat("*", most-1):                           1 + 2*(most-1),
		"a" + strings.Repeat("+", most-1):                           most,
		"a" + strings.Repeat("?", most-1):                           most,
		"^" + strings.Repeat("*", most-1):                           1 + 2*(most-1),
		strings.Repeat("()", 9) + strings.Repeat("|", most-18):      18 + 2*(most-18),
		strings.Repeat("(", 9) + "|" + strings.Repeat(")", 9) + "a": 18 + 2 + 1,
		strings.Repeat("\\*", most/2):                               most / 2,
		"[^" + strings.Repeat("a", most-3) + "]":                    1,
	} {
		n, err := rex.Parse(s)
		if err != nil || prog.Length(n) != length {
			t.Errorf("%q has a length of %d, not %d (%v)", s, prog.Length(n), length, err)
		}
		isCompiledOf(t, s, programOf(n))
	}
}
