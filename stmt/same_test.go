package stmt_test

import (
	"math"
	"testing"

	"millwright/attr"
	"millwright/lex"
	"millwright/stmt"
)

// P19.1, of Same

// full is a statement of which no field is zero.
func full() stmt.Stmt {
	return stmt.Stmt{Kind: stmt.Rule, Line: 3, Name: "x", Heads: fullWords("a"), Words: fullWords("b"), Attr: attr.Attr{Flags: 144, Prog: "cmp"}, Recipe: "make\n", Hidden: true, Command: true}
}

func fullWords(s string) [][]lex.Piece {
	return rows(word(plain(s), quoted("q"+s), variable("v")), word(subst(s, "%.c", "%.o")), word(back("ls")), word(plain(s)))
}

// otherWords is words that differ from some (which are as fullWords), and from one another, each in one thing alone.
func otherWords(s string) [][][]lex.Piece {
	with := func(change func(words [][]lex.Piece)) [][]lex.Piece {
		words := fullWords(s)
		change(words)
		return words
	}
	return [][][]lex.Piece{
		nil,
		rows(nil),
		rows(nil, nil),
		fullWords(s)[:3],
		fullWords(s)[1:],
		append(fullWords(s), nil),
		append(fullWords(s), word(plain(s))),
		with(func(w [][]lex.Piece) { w[0], w[3] = w[3], w[0] }),
		with(func(w [][]lex.Piece) { w[0] = w[0][:2] }),
		with(func(w [][]lex.Piece) { w[0] = w[0][1:] }),
		with(func(w [][]lex.Piece) { w[0] = append(w[0], plain("")) }),
		with(func(w [][]lex.Piece) { w[0][0], w[0][1] = w[0][1], w[0][0] }),
		with(func(w [][]lex.Piece) { w[1] = nil }),
		with(func(w [][]lex.Piece) { w[0][0].Kind = lex.Quoted }),
		with(func(w [][]lex.Piece) { w[0][2].Kind = lex.Back }),
		with(func(w [][]lex.Piece) { w[3][0].Kind = 99 }),
		with(func(w [][]lex.Piece) { w[0][0].Text = "" }),
		with(func(w [][]lex.Piece) { w[0][0].Text += "\x00" }),
		with(func(w [][]lex.Piece) { w[0][1].Text = "Q" + s }),
		with(func(w [][]lex.Piece) { w[0][1].Text = "q" + s + s }),
		with(func(w [][]lex.Piece) { w[0][2].Text = "w" }),
		with(func(w [][]lex.Piece) { w[1][0].Text = "y" }),
		with(func(w [][]lex.Piece) { w[1][0].From = "%.C" }),
		with(func(w [][]lex.Piece) { w[1][0].To = "%.O" }),
		with(func(w [][]lex.Piece) { w[1][0].From, w[1][0].To = w[1][0].To, w[1][0].From }),
		with(func(w [][]lex.Piece) { w[2][0].Text = "lS" }),
		with(func(w [][]lex.Piece) { w[2][0].To = "x" }),
		with(func(w [][]lex.Piece) { w[3][0].From = "x" }),
		with(func(w [][]lex.Piece) { w[3][0].Text = "A" }),
	}
}

// unlike is statements that differ from full, and from one another.
func unlike() []stmt.Stmt {
	changes := []func(s *stmt.Stmt){
		func(s *stmt.Stmt) {},
		func(s *stmt.Stmt) { s.Kind = stmt.Assign },
		func(s *stmt.Stmt) { s.Kind = stmt.Include },
		func(s *stmt.Stmt) { s.Kind = 0 },
		func(s *stmt.Stmt) { s.Kind = -2 },
		func(s *stmt.Stmt) { s.Kind = 2 + 1<<32 },
		func(s *stmt.Stmt) { s.Line = 4 },
		func(s *stmt.Stmt) { s.Line = 0 },
		func(s *stmt.Stmt) { s.Line = -3 },
		func(s *stmt.Stmt) { s.Line = math.MinInt },
		func(s *stmt.Stmt) { s.Name = "" },
		func(s *stmt.Stmt) { s.Name = "X" },
		func(s *stmt.Stmt) { s.Name = "xx" },
		func(s *stmt.Stmt) { s.Name = "x " },
		func(s *stmt.Stmt) { s.Attr.Flags = 145 },
		func(s *stmt.Stmt) { s.Attr.Flags = 0 },
		func(s *stmt.Stmt) { s.Attr.Flags = -144 },
		func(s *stmt.Stmt) { s.Attr.Prog = "" },
		func(s *stmt.Stmt) { s.Attr.Prog = "cmP" },
		func(s *stmt.Stmt) { s.Attr.Prog = "cmp " },
		func(s *stmt.Stmt) { s.Attr = attr.Attr{} },
		func(s *stmt.Stmt) { s.Recipe = "" },
		func(s *stmt.Stmt) { s.Recipe = "make" },
		func(s *stmt.Stmt) { s.Recipe = "make\n\n" },
		func(s *stmt.Stmt) { s.Recipe = "Make\n" },
		func(s *stmt.Stmt) { s.Hidden = false },
		func(s *stmt.Stmt) { s.Command = false },
		func(s *stmt.Stmt) { s.Hidden, s.Command = false, false },
		func(s *stmt.Stmt) { s.Heads, s.Words = s.Words, s.Heads },
		func(s *stmt.Stmt) { s.Heads = fullWords("b") },
		func(s *stmt.Stmt) { s.Words = fullWords("a") },
		func(s *stmt.Stmt) { s.Heads, s.Words = nil, nil },
		func(s *stmt.Stmt) { *s = stmt.Stmt{} },
	}
	for _, words := range otherWords("a") {
		changes = append(changes, func(s *stmt.Stmt) { s.Heads = words })
	}
	for _, words := range otherWords("b") {
		changes = append(changes, func(s *stmt.Stmt) { s.Words = words })
	}
	var out []stmt.Stmt
	for _, change := range changes {
		s := full()
		change(&s)
		out = append(out, s)
	}
	return out
}

func TestSame(t *testing.T) {
	a, b := unlike(), unlike()
	for i := range a {
		for k := range b {
			if got := stmt.Same(a[i], b[k]); got != (i == k) {
				t.Errorf("Same is %t of\n%s\n%s", got, whole(a[i]), whole(b[k]))
			}
		}
	}
}

// Lists without members and nil are the same, at each depth.
func TestSameOfNoWords(t *testing.T) {
	none := []([][]lex.Piece){nil, {}, make([][]lex.Piece, 0, 4), fullWords("a")[:0]}
	empty := []([][]lex.Piece){{nil}, {{}}, {make([]lex.Piece, 0, 4)}, {fullWords("a")[0][:0]}}
	for _, lists := range [][]([][]lex.Piece){none, empty} {
		for _, a := range lists {
			for _, b := range lists {
				one, other := full(), full()
				one.Heads, other.Heads = a, b
				if !stmt.Same(one, other) {
					t.Errorf("Heads %#v and %#v aren't the same", a, b)
				}
				one.Words, other.Words = b, a
				if !stmt.Same(one, other) {
					t.Errorf("Words %#v and %#v aren't the same", b, a)
				}
			}
		}
	}
	for _, a := range none {
		for _, b := range empty {
			one, other := full(), full()
			one.Heads, other.Heads = a, b
			if stmt.Same(one, other) || stmt.Same(other, one) {
				t.Errorf("Heads %#v and %#v are the same", a, b)
			}
			one.Heads, one.Words, other.Words = b, a, b
			if stmt.Same(one, other) || stmt.Same(other, one) {
				t.Errorf("Words %#v and %#v are the same", a, b)
			}
		}
	}
}

// Same holds just where two statements are told as the same.
func TestSameOfWhatIsParsed(t *testing.T) {
	c := chance(5)
	alike := 0
	for range 20000 {
		a, _ := stmt.Of(c.one("x = ", "a: ", "<") + c.of("ab' ", 4))
		b, _ := stmt.Of(c.one("x = ", "a: ", "<") + c.of("ab' ", 4))
		for _, one := range a {
			for _, other := range b {
				want := whole(one) == whole(other)
				if got := stmt.Same(one, other); got != want {
					t.Fatalf("Same is %t of\n%s\n%s", got, whole(one), whole(other))
				}
				if want {
					alike++
				}
			}
		}
	}
	if alike < 100 {
		t.Errorf("just %d are alike", alike)
	}
}
