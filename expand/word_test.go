package expand_test

import (
	"slices"
	"testing"

	"millwright/api"
	"millwright/env"
	"millwright/expand"
	"millwright/lex"
)

// P17.1, of Word

func TestTheExample(t *testing.T) {
	w := world{vars: map[string][]string{"x": {"a", "b"}}}
	w.isWord(t, word(plain("p"), variable("x"), plain(".c")), "pa", "b.c")
}

func TestWordOfNoPiece(t *testing.T) {
	usual().isWord(t, nil)
	usual().isWord(t, word())
	world{}.isWord(t, nil)
}

// joined is lists behind one another, the first word of each put behind the last one of the list ahead of it.
func joined(list []string, others ...[]string) []string {
	out := slices.Clone(list)
	for _, more := range others {
		out[len(out)-1] += more[0]
		out = append(out, more[1:]...)
	}
	return out
}

// around wants of a piece that gives some words what is told: alone, first, last and between others.
func (w world) around(t *testing.T, p lex.Piece, given ...string) {
	t.Helper()
	if len(given) == 0 {
		w.nothing(t, p)
		return
	}
	if len(given) > 1 || given[0] != "" || p.Kind == lex.Quoted {
		w.isWord(t, word(p), given...)
	} else {
		w.isWord(t, word(p))
	}
	s, e, two := []string{"s "}, []string{" e"}, []string{"b", "c"}
	w.isWord(t, word(quoted(""), p), given...)
	w.isWord(t, word(p, quoted("")), given...)
	w.isWord(t, word(quoted("s "), p), joined(s, given)...)
	w.isWord(t, word(p, plain(" e")), joined(given, e)...)
	w.isWord(t, word(plain("s "), p, quoted(" e")), joined(s, given, e)...)
	w.isWord(t, word(variable("none"), p, back("nil"), plain(" e")), joined(given, e)...)
	w.isWord(t, word(variable("two"), p, plain(" e")), joined(two, given, e)...)
	w.isWord(t, word(back("p q"), p, quoted("")), joined([]string{"p", "q"}, given)...)
	w.isWord(t, word(plain("s "), p, variable("two")), joined(s, given, two)...)
	w.isWord(t, word(plain("s "), p, put("two", "%", "<&>")), joined(s, given, []string{"<b>", "<c>"})...)
	w.isWord(t, word(variable("two"), p, back("p q")), joined(two, given, []string{"p", "q"})...)
	w.isWord(t, word(quoted("s "), p, p, plain(" e")), joined(s, given, given, e)...)
	w.isWord(t, word(variable("two"), p, variable("two"), p, variable("two")), joined(two, given, two, given, two)...)
}

// nothing wants that a piece changes nothing, wherever it stands.
func (w world) nothing(t *testing.T, p lex.Piece) {
	t.Helper()
	w.isWord(t, word(p))
	w.isWord(t, word(p, p, p))
	w.isWord(t, word(p, plain(""), p))
	w.isWord(t, word(p, quoted("")), "")
	w.isWord(t, word(quoted(""), p), "")
	w.isWord(t, word(p, plain("a")), "a")
	w.isWord(t, word(plain("a"), p), "a")
	w.isWord(t, word(plain("a"), p, plain("b")), "ab")
	w.isWord(t, word(p, plain("a"), p, p, plain("b"), p), "ab")
	w.isWord(t, word(quoted("a "), p, quoted(" b")), "a  b")
	w.isWord(t, word(p, variable("two"), p), "b", "c")
	w.isWord(t, word(variable("two"), p, variable("two")), "b", "cb", "c")
	w.isWord(t, word(back("p q"), p, put("two", "%", "%%"), p, plain("e")), "p", "qbb", "cce")
	w.isWord(t, word(variable("empties"), p, variable("empties")), "", "", "", "", "")
}

func TestWordOfPlainAndQuoted(t *testing.T) {
	w := usual()
	for _, s := range []string{"a", "x.c", " ", "  ", "a b", " a", "a ", "\t", "\n", "a\nb", "'", "''", "it's", "$one", "${one}", "`{o}", "%", "&", "%.c", "=", ":", "#", "\\", "\x00", "\xff", "\u00e9", ""} {
		w.around(t, plain(s), s)
		w.around(t, quoted(s), s)
		// What a piece of the kind doesn't have means nothing.
		w.around(t, lex.Piece{Kind: lex.Plain, Text: s, From: "%", To: "b"}, s)
		w.around(t, lex.Piece{Kind: lex.Quoted, Text: s, From: "%", To: "b"}, s)
	}
}

func TestWordOfVariables(t *testing.T) {
	w := usual()
	for _, name := range w.names() {
		w.around(t, variable(name), w.vars[name]...)
		w.around(t, lex.Piece{Kind: lex.Var, Text: name, From: "%", To: "b"}, w.vars[name]...)
		w.around(t, put(name, "%", "%"), w.vars[name]...)
		w.around(t, put(name, "other", "b"), w.vars[name]...)
	}
	for _, name := range []string{"", "nobody", "one ", " one", "One", "on", "ones", "${one}", "one two", "a\x00", "\xff", sized(5000)} {
		w.nothing(t, variable(name))
		w.nothing(t, put(name, "%", "b"))
		w.nothing(t, put(name, "", "b"))
	}
}

// Whoever set a variable, and whether it is hidden, it has its words.
func TestWordOfVariablesOfEachLevel(t *testing.T) {
	for level := range 3 {
		for _, hidden := range []bool{false, true} {
			e := env.New()
			if err := e.Set(env.Var{Name: "x", Words: []string{"a", "b"}, Level: level, Hidden: hidden}); err != nil {
				t.Fatal(err)
			}
			pieces := word(plain("p"), variable("x"))
			holds(t, "Word", [][]lex.Piece{pieces}, answerOf(expand.Word(pieces, e, nil)), answer{list: []string{"pa", "b"}})
		}
	}
}

// The words of a variable are what they are: no names, no quotes, no fields.
func TestWordsOfAVariableAreNotReadAgain(t *testing.T) {
	w := world{vars: map[string][]string{"x": {"$y ${y}", "`{p}", "'a b'", " ", "% &"}, "y": {"no"}}, out: []expand.Output{{Command: "p", Text: "$x '$y"}}}
	w.isWord(t, word(variable("x")), "$y ${y}", "`{p}", "'a b'", " ", "% &")
	w.isWord(t, word(put("x", "'%'", "$x%")), "$y ${y}", "`{p}", "$xa b", " ", "% &")
	w.isWord(t, word(back("p")), "$x", "'$y")
	w.isWord(t, word(plain("$x"), quoted("'$y'"), plain("`{p}")), "$x'$y'`{p}")
}

func TestWordOfSubsts(t *testing.T) {
	w := usual()
	cases := []struct {
		name, from, to string
		want           []string
	}{
		{"none", "%", "b", nil},
		{"one", "%", "%.o", []string{"a.o"}},
		{"one", "a", "b", []string{"b"}},
		{"one", "b", "no", []string{"a"}},
		{"one", "%", "", []string{""}},
		{"two", "%", "%.o", []string{"b.o", "c.o"}},
		{"two", "b", "x", []string{"x", "c"}},
		{"two", "c", "", []string{"b", ""}},
		{"two", "%", "", []string{"", ""}},
		{"two", "%", "%&", []string{"bb", "cc"}},
		{"two", "%%", "no", []string{"b", "c"}},
		{"many", "%.c", "%.o", []string{"x.o", "y.h", "d/z.o", "a"}},
		{"many", "&.c", "&.o", []string{"x.o", "y.h", "d/z.c", "a"}},
		{"many", "d/%.c", "%", []string{"x.c", "y.h", "z", "a"}},
		{"many", "%.q", "no", []string{"x.c", "y.h", "d/z.c", "a"}},
		{"many", "%", "new", []string{"new", "new", "new", "new"}},
		{"empty", "", "e", []string{"e"}},
		{"empty", "%", "<%>", []string{"<>"}},
		{"empty", "x%", "no", []string{""}},
		{"empties", "", "e", []string{"e", "e", "e"}},
		{"empties", "%", "", []string{"", "", ""}},
		{"hole", "", "e", []string{"a", "e", "b"}},
		{"hole", "a", "", []string{"", "", "b"}},
		{"odd", "% b", "%\t%", []string{"a\ta", " ", "'", "$one", "`{p}", "\n"}},
	}
	for _, c := range cases {
		w.around(t, put(c.name, c.from, c.to), c.want...)
	}
}

func TestWordOfCommands(t *testing.T) {
	w := usual()
	w.around(t, back("nil"))
	w.around(t, back("blank"))
	w.around(t, back(""), "q")
	w.around(t, back("o"), "o")
	w.around(t, back("p q"), "p", "q")
	w.around(t, back("r"), "r", "s", "t", "u")
	w.around(t, back("last"), "l")
	// Quotes mean nothing, nor do other signs; just blanks, tabs and line feeds part.
	w.around(t, back("odd"), "'a", "b'", "$one", "`{o}\r")
	w.around(t, lex.Piece{Kind: lex.Back, Text: "p q", From: "%", To: "b"}, "p", "q")
	for _, text := range []string{"a b", " a b", "a b ", "\n\na\t \nb\n", "a\tb", "a\nb"} {
		w.out = append([]expand.Output{{Command: "new", Text: text}}, usual().out...)
		w.around(t, back("new"), "a", "b")
	}
}

// The first of several outputs of a command is the one, also if it has no bytes.
func TestWordOfTheFirstOutput(t *testing.T) {
	w := world{out: []expand.Output{{"a", "1"}, {"b", ""}, {"a", "2"}, {"b", "no"}, {"c", "3"}, {"a", "4"}}}
	w.isWord(t, word(back("a"), back("b"), back("c"), back("a")), "131")
	w.out = w.out[2:]
	w.isWord(t, word(back("a"), back("b"), back("c"), back("a")), "2no32")
}

func TestWordOfSeveralPiecesWithWords(t *testing.T) {
	w := usual()
	w.isWord(t, word(variable("two"), variable("two")), "b", "cb", "c")
	w.isWord(t, word(variable("two"), variable("two"), variable("two")), "b", "cb", "cb", "c")
	w.isWord(t, word(variable("one"), variable("one")), "aa")
	w.isWord(t, word(variable("one"), variable("two")), "ab", "c")
	w.isWord(t, word(variable("two"), variable("one")), "b", "ca")
	w.isWord(t, word(variable("two"), put("two", "%", "%%"), back("p q")), "b", "cbb", "ccp", "q")
	w.isWord(t, word(back("r"), back("p q"), variable("many")), "r", "s", "t", "up", "qx.c", "y.h", "d/z.c", "a")
	w.isWord(t, word(put("many", "%.c", "%.o"), plain("-"), back("r"), quoted(" "), variable("two")), "x.o", "y.h", "d/z.o", "a-r", "s", "t", "u b", "c")
	w.isWord(t, word(plain("a"), quoted("b c"), plain("d"), quoted("")), "ab cd")
	w.isWord(t, word(variable("tail"), variable("head")), "a", "", "a")
	w.isWord(t, word(variable("head"), variable("tail")), "", "aa", "")
	w.isWord(t, word(variable("hole"), variable("hole")), "a", "", "ba", "", "b")
	w.isWord(t, word(variable("empties"), variable("empties")), "", "", "", "", "")
	w.isWord(t, word(variable("empties"), variable("empty"), variable("two")), "", "", "b", "c")
	w.isWord(t, word(variable("two"), variable("none"), back("nil"), variable("nobody"), back("blank"), put("none", "%", "no"), variable("two")), "b", "cb", "c")
}

// One empty word is no word, but where a piece is Quoted.
func TestWordThatIsEmpty(t *testing.T) {
	w := usual()
	empty := []lex.Piece{plain(""), variable("none"), variable("nobody"), variable("empty"), put("empty", "%", "%"), put("one", "%", ""), put("none", "%", "b"), back("nil"), back("blank")}
	for _, p := range empty {
		w.isWord(t, word(p))
		for _, q := range empty {
			w.isWord(t, word(p, q))
			w.isWord(t, word(quoted(""), p, q), "")
			w.isWord(t, word(p, quoted(""), q), "")
			w.isWord(t, word(p, q, quoted("")), "")
			w.isWord(t, word(p, q, quoted(""), quoted("")), "")
			w.isWord(t, word(p, plain("a"), q), "a")
		}
	}
	w.isWord(t, empty)
	w.isWord(t, append(append(word(quoted("")), empty...), empty...), "")
	w.isWord(t, append(append(append(word(), empty...), quoted("")), empty...), "")
	w.isWord(t, append(append(word(), empty...), quoted("")), "")
	w.isWord(t, word(quoted("")), "")
	w.isWord(t, word(quoted(""), quoted("")), "")
	w.isWord(t, word(quoted("a"), plain("")), "a")
}

// Several words stay, though all are empty.
func TestWordsThatAreEmpty(t *testing.T) {
	w := usual()
	w.isWord(t, word(variable("empties")), "", "", "")
	w.isWord(t, word(put("two", "%", "")), "", "")
	w.isWord(t, word(put("empties", "%", "")), "", "", "")
	w.isWord(t, word(plain(""), put("two", "%", ""), back("nil")), "", "")
	w.isWord(t, word(put("two", "%", ""), put("two", "&", "")), "", "", "")
	w.isWord(t, word(quoted(""), put("two", "%", ""), quoted("")), "", "")
}

func TestWordOfANilEnv(t *testing.T) {
	out := []expand.Output{{"p", "q r"}}
	for _, p := range []lex.Piece{variable("x"), variable(""), put("x", "%", "b"), put("", "", ""), put("x", "%", sized(5000))} {
		for _, c := range []struct {
			pieces []lex.Piece
			want   []string
		}{
			{word(p), nil}, {word(p, p), nil}, {word(p, quoted("")), []string{""}}, {word(plain("a"), p, plain("b")), []string{"ab"}},
			{word(p, back("p"), p), []string{"q", "r"}}, {word(quoted(" "), p), []string{" "}},
		} {
			list := [][]lex.Piece{c.pieces, c.pieces}
			holds(t, "Word", list[:1], answerOf(expand.Word(c.pieces, nil, out)), answer{list: c.want})
			holds(t, "Words", list, answerOf(expand.Words(list, nil, out)), answer{list: slices.Concat(c.want, c.want)})
		}
	}
	pieces := word(variable("x"), back("p"))
	holds(t, "Word", [][]lex.Piece{pieces}, answerOf(expand.Word(pieces, nil, nil)), answer{err: api.ErrNone})
	pieces = word(variable("x"), plain("a"))
	holds(t, "Word", [][]lex.Piece{pieces}, answerOf(expand.Word(pieces, &env.Env{}, nil)), answer{list: []string{"a"}})
}

// alphabet is pieces of all kinds, with as many words as make a difference.
func alphabet() []lex.Piece {
	return []lex.Piece{
		plain(""), plain("p"), quoted(""), quoted("q "), variable("none"), variable("nobody"), variable("empty"), variable("one"), variable("two"), variable("empties"),
		put("two", "b", ""), put("many", "&.c", "&.o"), put("two", "%", sized(61)+"%"), put("one", "%", sized(120)+"%"), back("nil"), back("o"), back("p q"), back("nothing"), {Kind: -1}, {Kind: 5},
	}
}

func TestWordOfAllShortOnes(t *testing.T) {
	w := usual()
	e := w.env(t)
	all := [][]lex.Piece{nil}
	for from := 0; len(all[from]) < 3; from++ {
		for _, p := range alphabet() {
			all = append(all, append(append(word(), all[from]...), p))
		}
	}
	for _, pieces := range all {
		w.isAsked(t, e, pieces)
	}
}

func TestWordWithoutAPlan(t *testing.T) {
	w := usual()
	e := w.env(t)
	c := chance(1)
	found := make(map[error]int)
	for range 40000 {
		pieces := c.word(w, 25)
		w.isAsked(t, e, pieces)
		_, err := w.asked(pieces)
		found[err]++
	}
	for _, err := range []error{nil, api.ErrKind, api.ErrNone, api.ErrLong, api.ErrFull} {
		if found[err] < 300 {
			t.Errorf("just %d words have %v", found[err], err)
		}
	}
}
