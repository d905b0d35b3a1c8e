package expand_test

import (
	"slices"
	"testing"

	"millwright/expand"
	"millwright/lex"
)

// P17.1, of Find

// isFound wants which output a command has.
func isFound(t *testing.T, command string, out []expand.Output, want string) {
	t.Helper()
	if got, there := expand.Find(command, out); got != want || !there {
		t.Errorf("Find of %s is %s, %v, not %s", told(command), told(got), there, told(want))
	}
}

// isNotFound wants that a command has no output.
func isNotFound(t *testing.T, command string, out []expand.Output) {
	t.Helper()
	if got, there := expand.Find(command, out); got != "" || there {
		t.Errorf("Find of %s is %s, %v, though it isn't there", told(command), told(got), there)
	}
}

func TestFind(t *testing.T) {
	out := []expand.Output{{"ls", "a\nb\n"}, {"pwd", "/"}, {"ls", "second"}, {"", "of no bytes"}, {"nil", ""}, {"nil", "second"}, {"pwd", ""}, {"", ""}, {"ls -l", " l "}, {"last", "z"}, {"\xff\x00", "\x00\xff"}}
	isFound(t, "ls", out, "a\nb\n")
	isFound(t, "pwd", out, "/")
	isFound(t, "", out, "of no bytes")
	isFound(t, "nil", out, "")
	isFound(t, "ls -l", out, " l ")
	isFound(t, "last", out, "z")
	isFound(t, "\xff\x00", out, "\x00\xff")
	for _, command := range []string{"l", "s", "lss", " ls", "ls ", "LS", "ls\n", "'ls'", "a\nb\n", "second", "nothing", "\xff", "ls -l ", sized(5000)} {
		isNotFound(t, command, out)
	}
	isFound(t, "ls", out[1:], "second")
	isFound(t, "nil", out[5:], "second")
	isFound(t, "", out[4:], "")
	isNotFound(t, "ls", out[3:])
	isNotFound(t, "", out[8:])
}

func TestFindOfNoOutput(t *testing.T) {
	for _, command := range []string{"", "ls", "\x00"} {
		isNotFound(t, command, nil)
		isNotFound(t, command, []expand.Output{})
		isFound(t, command, []expand.Output{{command, "a"}}, "a")
		isFound(t, command, []expand.Output{{"other", "no"}, {command, "a"}, {command, "no"}}, "a")
	}
}

func TestFindOfManyOutputs(t *testing.T) {
	var out []expand.Output
	for _, command := range append(many(500), many(1000)...) {
		out = append(out, expand.Output{Command: command, Text: "of " + command + sized(len(out)%7)})
	}
	for i, command := range many(1000) {
		at := i
		if i >= 500 {
			at += 500
		}
		isFound(t, command, out, out[at].Text)
	}
	isNotFound(t, "w1000", out)
}

// P17.1, of Commands

// areCommands wants which commands words have.
func areCommands(t *testing.T, list [][]lex.Piece, want ...string) {
	t.Helper()
	if got := expand.Commands(list); !sameList(got, want) {
		t.Errorf("Commands of %s is %s, not %s", shown(list...), told(got...), told(want...))
	}
}

func TestCommands(t *testing.T) {
	areCommands(t, nil)
	areCommands(t, [][]lex.Piece{})
	areCommands(t, [][]lex.Piece{nil, {}, nil})
	areCommands(t, words(plain("a"), quoted("b")))
	areCommands(t, words(back("a")), "a")
	areCommands(t, words(back("")), "")
	areCommands(t, words(back("a"), back("b")), "a", "b")
	areCommands(t, words(back("b"), back("a"), back("c")), "b", "a", "c")
	areCommands(t, [][]lex.Piece{{back("b"), back("a"), back("c")}}, "b", "a", "c")
	areCommands(t, [][]lex.Piece{nil, {back("b")}, {}, {back("a")}, nil}, "b", "a")
	areCommands(t, [][]lex.Piece{{plain("x"), back("b"), quoted("y")}, {variable("z")}, {put("z", "a", "b"), back("a")}}, "b", "a")
	areCommands(t, words(back("a "), back("a"), back(" a"), back("A"), back("aa"), back("a b"), back("\xff"), back("")), "a ", "a", " a", "A", "aa", "a b", "\xff", "")
}

func TestCommandsThatAreThereTwice(t *testing.T) {
	areCommands(t, [][]lex.Piece{{back("a"), back("a")}}, "a")
	areCommands(t, words(back("a"), back("a"), back("a")), "a")
	areCommands(t, words(back(""), back("")), "")
	areCommands(t, [][]lex.Piece{{back("a"), back("b"), back("a")}}, "a", "b")
	areCommands(t, words(back("a"), back("b"), back("a"), back("b"), back("c")), "a", "b", "c")
	areCommands(t, [][]lex.Piece{{back("b"), back("a")}, {back("a"), back("b"), back("c")}, {back("c"), back("b")}}, "b", "a", "c")
	areCommands(t, [][]lex.Piece{{back("a"), plain("x"), back("a")}, {plain("y")}, {back("a")}}, "a")
}

// Pieces of other kinds with the same Text don't count.
func TestCommandsOfOtherPieces(t *testing.T) {
	for _, kind := range []int{lex.Plain, lex.Quoted, lex.Var, lex.Subst, -1, lex.Back + 1, lex.Back + 256, -lex.Back} {
		p := lex.Piece{Kind: kind, Text: "a"}
		areCommands(t, words(p))
		areCommands(t, words(p, back("b"), p), "b")
		areCommands(t, words(p, back("b"), back("a")), "b", "a")
		areCommands(t, [][]lex.Piece{{p, p, back("a"), p}, {p, back("a")}}, "a")
	}
	// What a Back piece doesn't have means nothing.
	areCommands(t, words(lex.Piece{Kind: lex.Back, Text: "a", From: "x"}, lex.Piece{Kind: lex.Back, Text: "a", To: "y"}, back("b")), "a", "b")
}

// Every command of words without a plan is there once, in the order in which it is met first; those alone have no output.
func TestCommandsWithoutAPlan(t *testing.T) {
	c := chance(4)
	for range 5000 {
		var list [][]lex.Piece
		var want []string
		for range c.below(6) {
			pieces := c.word(usual(), 8)
			for _, p := range pieces {
				if p.Kind == 4 && !slices.Contains(want, p.Text) {
					want = append(want, p.Text)
				}
			}
			list = append(list, pieces)
		}
		areCommands(t, list, want...)
	}
}

func TestGreatCommands(t *testing.T) {
	const great = 1 << 17
	var list [][]lex.Piece
	for _, command := range many(great) {
		list = append(list, word(back(command), plain(command), back("a")))
	}
	want := slices.Insert(many(great), 1, "a")
	areCommands(t, list, want...)
	areCommands(t, append(slices.Clone(list), list...), want...)
	areCommands(t, [][]lex.Piece{slices.Concat(list...)}, want...)
}
