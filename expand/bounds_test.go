package expand_test

import (
	"math"
	"slices"
	"strings"
	"testing"

	"millwright/api"
	"millwright/expand"
	"millwright/lex"
)

// P17.1, of Word's errors

// wrong is pieces that have an error, each with its error.
func wrong() []struct {
	piece lex.Piece
	err   error
} {
	return []struct {
		piece lex.Piece
		err   error
	}{
		{lex.Piece{Kind: -1, Text: "one"}, api.ErrKind},
		{lex.Piece{Kind: lex.Back + 1, Text: "one"}, api.ErrKind},
		{back("nothing"), api.ErrNone},
		{put("one", "a", sized(api.MaxWord+1)), api.ErrLong},
	}
}

// right is pieces without an error, of each kind.
func right() []lex.Piece {
	return []lex.Piece{plain("a"), plain(""), quoted("b "), quoted(""), variable("two"), variable("none"), variable("nobody"), put("many", "%.c", "%.o"), put("none", "%", "b"), back("p q"), back("nil")}
}

// tooMany and tooLong is a piece that makes a word too great, with no error of its own.
func tooMany() []lex.Piece { return slices.Repeat(word(variable("lots")), 3) }
func tooLong() []lex.Piece { return word(plain(sized(api.MaxWord + 1))) }

// both is a word that is too great in both ways.
func both() []lex.Piece { return slices.Concat(tooLong(), tooMany(), tooLong()) }

// isWrong wants an error of a piece wherever it stands.
func (w world) isWrong(t *testing.T, p lex.Piece, err error) {
	t.Helper()
	w.isNoWord(t, word(p), err)
	w.isNoWord(t, word(p, p), err)
	for _, r := range right() {
		w.isNoWord(t, word(p, r), err)
		w.isNoWord(t, word(r, p), err)
		w.isNoWord(t, word(r, p, r), err)
	}
	w.isNoWord(t, append(right(), p), err)
	w.isNoWord(t, append(word(p), right()...), err)
	w.isNoWord(t, append(append(right(), p), right()...), err)
	// It is told ahead of a word that is too great, also where it stands last.
	for _, great := range [][]lex.Piece{tooMany(), tooLong(), both()} {
		w.isNoWord(t, slices.Concat(word(p), great), err)
		w.isNoWord(t, slices.Concat(great, word(p)), err)
		w.isNoWord(t, slices.Concat(great, word(p), great), err)
	}
}

func TestWordsThatAreWrong(t *testing.T) {
	w := usual()
	for _, c := range wrong() {
		w.isWrong(t, c.piece, c.err)
	}
}

func TestWordOfOtherKinds(t *testing.T) {
	w := usual()
	for _, kind := range []int{math.MinInt, -256, -3, -2, -1, 5, 6, 7, 256, 257, 260, math.MaxInt} {
		for _, p := range []lex.Piece{{}, plain("a"), variable("one"), variable("none"), put("one", "%", "b"), back("o"), back("nothing")} {
			p.Kind = kind
			w.isWrong(t, p, api.ErrKind)
		}
	}
}

func TestWordOfCommandsWithoutOutput(t *testing.T) {
	w := usual()
	for _, command := range []string{"nothing", "O", "o ", " o", "oo", "p  q", "p", "q", "'o'", "\x00", sized(5000)} {
		w.isWrong(t, back(command), api.ErrNone)
	}
	for _, out := range [][]expand.Output{nil, {}, {{"ls", "a"}}, {{"", ""}}, {{"pwd ", "a"}, {" pwd", "b"}}} {
		world{out: out}.isNoWord(t, word(back("pwd")), api.ErrNone)
		world{out: out}.isNoWord(t, word(plain("a"), back("pwd"), plain("b")), api.ErrNone)
	}
	// An output of no fields is one.
	w.isWord(t, word(back("nil"), back("blank")))
	world{}.isNoWord(t, word(back("")), api.ErrNone)
}

func TestWordOfSubstsThatAreTooLong(t *testing.T) {
	w := world{vars: map[string][]string{"none": nil, "one": {"a"}, "more": {"b", "aa", "c"}, "lots": many(15), "two": {"b", "c"}, "many": {"x.c"}, "long": {sized(api.MaxWord)}}, out: usual().out}
	for _, p := range []lex.Piece{
		put("one", "a", sized(api.MaxWord+1)), put("one", "%", sized(api.MaxWord)+"%"), put("one", "&", strings.Repeat("%", api.MaxWord+1)), put("more", "aa", sized(5000)),
		put("more", "%", sized(api.MaxWord-1)+"&"), put("more", "b", sized(api.MaxWord+1)), put("more", "c", sized(api.MaxWord+1)), put("long", "%", "%."), put("long", "w%", "ww%w"),
	} {
		w.isWrong(t, p, api.ErrLong)
	}
	w.isWord(t, word(put("one", "a", sized(api.MaxWord))), sized(api.MaxWord))
	w.isWord(t, word(put("more", "%", sized(api.MaxWord-2)+"%")), sized(api.MaxWord-2)+"b", sized(api.MaxWord-2)+"aa", sized(api.MaxWord-2)+"c")
	w.isWord(t, word(put("one", "b", sized(api.MaxWord+1))), "a")
	w.isWord(t, word(put("long", "w%", "%")), sized(api.MaxWord-1))
	w.isWord(t, word(put("none", "%", sized(5000)), put("nobody", "", sized(5000)), quoted("")), "")
}

// The first of two errors is told, piece by piece.
func TestWordOfTwoErrors(t *testing.T) {
	w := usual()
	for _, first := range wrong() {
		for _, second := range wrong() {
			w.isNoWord(t, word(first.piece, second.piece), first.err)
			for _, r := range right() {
				w.isNoWord(t, word(first.piece, r, second.piece), first.err)
				w.isNoWord(t, word(r, first.piece, second.piece), first.err)
				w.isNoWord(t, word(r, first.piece, r, second.piece, r), first.err)
			}
			w.isNoWord(t, slices.Concat(both(), word(first.piece), both(), word(second.piece), both()), first.err)
		}
	}
}

// P17.1, of Word's bounds

// way is a word of pieces in a world.
type way struct {
	w      world
	pieces []lex.Piece
}

// ways is so many words, each a single a, made in many ways.
func ways(n int) []way {
	list := slices.Repeat([]string{"a"}, n)
	open := world{vars: map[string][]string{"x": {"a", ""}}}
	out := []way{
		{world{out: []expand.Output{{"p", strings.Join(list, " ")}}}, word(back("p"))},
		{world{out: []expand.Output{{"p", "\n" + strings.Join(list, "\n\t") + "\n"}}}, word(back("p"))},
		// Each piece goes on with the word that the one ahead of it left open.
		{open, append(slices.Repeat(word(variable("x")), n-1), plain("a"))},
		{open, append(slices.Repeat(word(put("x", "a", "a"), quoted("")), n-1), quoted("a"))},
	}
	if n <= api.MaxWords {
		all := world{vars: map[string][]string{"x": list}}
		out = append(out, way{all, word(variable("x"))}, way{all, word(put("x", "q", "no"))})
	}
	return out
}

func TestWordOfManyWords(t *testing.T) {
	for n := 1; n <= 3*api.MaxWords; n++ {
		for _, way := range ways(n) {
			if n <= api.MaxWords {
				way.w.isWord(t, way.pieces, slices.Repeat([]string{"a"}, n)...)
			} else {
				way.w.isNoWord(t, way.pieces, api.ErrFull)
			}
		}
	}
}

func TestWordOfMaxWords(t *testing.T) {
	list := many(api.MaxWords)
	w := world{
		vars: map[string][]string{"all": list, "most": list[:api.MaxWords-1], "one": {"a"}, "two": {"a", "b"}, "none": nil, "empty": {""}},
		out:  []expand.Output{{"all", strings.Join(list, " ")}, {"more", strings.Join(many(api.MaxWords+1), "\n")}, {"none", ""}},
	}
	for _, p := range []lex.Piece{variable("all"), put("all", "q", "q"), put("all", "%", "%"), back("all")} {
		w.isWord(t, word(p), list...)
		w.isWord(t, word(variable("none"), p, back("none")), list...)
		w.isWord(t, word(plain("a"), p), joined([]string{"a"}, list)...)
		w.isWord(t, word(p, quoted("a")), joined(list, []string{"a"})...)
		w.isWord(t, word(variable("one"), p, variable("one"), variable("empty")), joined([]string{"a"}, list, []string{"a"})...)
		w.isNoWord(t, word(p, variable("two")), api.ErrFull)
		w.isNoWord(t, word(variable("two"), p), api.ErrFull)
		w.isNoWord(t, word(variable("one"), p, variable("one"), variable("two"), variable("one")), api.ErrFull)
		w.isNoWord(t, word(p, p), api.ErrFull)
	}
	w.isWord(t, word(variable("most"), variable("two")), joined(list[:api.MaxWords-1], []string{"a", "b"})...)
	w.isWord(t, word(variable("two"), variable("most")), joined([]string{"a", "b"}, list[:api.MaxWords-1])...)
	w.isNoWord(t, word(variable("most"), variable("two"), variable("two")), api.ErrFull)
	w.isNoWord(t, word(variable("two"), variable("most"), variable("two")), api.ErrFull)
	w.isNoWord(t, word(back("more")), api.ErrFull)
	w.isNoWord(t, word(plain("a"), back("more"), plain("b")), api.ErrFull)
}

func TestWordOfMaxWord(t *testing.T) {
	const half = api.MaxWord / 2
	w := world{
		vars: map[string][]string{"a": {sized(half), "b", sized(half)}, "max": {sized(api.MaxWord)}, "between": {"a", sized(api.MaxWord), "b"}, "first": {sized(api.MaxWord), "a"}, "last": {"a", sized(api.MaxWord)}, "empty": {""}, "none": nil, "two": {"", ""}},
		out:  []expand.Output{{"max", " " + sized(api.MaxWord) + " "}, {"long", sized(api.MaxWord + 1)}, {"in", "a " + sized(api.MaxWord+1) + " b"}, {"at", "a " + sized(api.MaxWord+1)}, {"of", sized(api.MaxWord+1) + " b"}, {"nil", ""}},
	}
	for _, p := range []lex.Piece{plain(sized(api.MaxWord)), quoted(sized(api.MaxWord)), variable("max"), put("max", "%", "%"), back("max")} {
		w.isWord(t, word(p), sized(api.MaxWord))
		w.isWord(t, word(p, plain(""), variable("empty"), variable("none"), quoted(""), back("nil")), sized(api.MaxWord))
		w.isWord(t, word(variable("two"), p, variable("two")), "", sized(api.MaxWord), "")
		w.isNoWord(t, word(p, plain("a")), api.ErrLong)
		w.isNoWord(t, word(quoted("a"), p), api.ErrLong)
		w.isNoWord(t, word(p, p), api.ErrLong)
		w.isNoWord(t, word(variable("two"), p, plain("a"), variable("two")), api.ErrLong)
		w.isNoWord(t, word(variable("two"), plain("a"), p, variable("two")), api.ErrLong)
	}
	w.isWord(t, word(variable("between")), "a", sized(api.MaxWord), "b")
	w.isWord(t, word(plain("a"), variable("between"), plain("b")), "aa", sized(api.MaxWord), "bb")
	w.isWord(t, word(variable("first"), plain("b")), sized(api.MaxWord), "ab")
	w.isNoWord(t, word(plain("b"), variable("first")), api.ErrLong)
	w.isWord(t, word(plain("b"), variable("last")), "ba", sized(api.MaxWord))
	w.isNoWord(t, word(variable("last"), plain("b")), api.ErrLong)
	w.isNoWord(t, word(variable("last"), quoted("b"), variable("first")), api.ErrLong)
	w.isWord(t, word(variable("a"), variable("a")), sized(half), "b", sized(2*half), "b", sized(half))
	w.isNoWord(t, word(variable("a"), plain("b"), variable("a")), api.ErrLong)
	for _, s := range []string{"long", "in", "at", "of"} {
		w.isNoWord(t, word(back(s)), api.ErrLong)
		w.isNoWord(t, word(variable("two"), back(s), variable("two")), api.ErrLong)
	}
	for _, n := range []int{api.MaxWord + 1, api.MaxWord + 2, 2 * api.MaxWord, 5000} {
		for _, p := range []lex.Piece{plain(sized(n)), quoted(sized(n)), quoted(strings.Repeat(" ", n))} {
			w.isNoWord(t, word(p), api.ErrLong)
			w.isNoWord(t, word(p, variable("a")), api.ErrLong)
			w.isNoWord(t, word(variable("a"), p), api.ErrLong)
			w.isNoWord(t, word(variable("a"), p, variable("a")), api.ErrLong)
		}
	}
}

// A word of bytes that many pieces give.
func TestWordOfMaxWordOfManyPieces(t *testing.T) {
	w := usual()
	for _, p := range []lex.Piece{plain("a"), quoted("a"), variable("one"), put("one", "%", "%"), put("many", "%", "a")} {
		for n := 1; n <= api.MaxWord+3; n++ {
			w.is(t, slices.Repeat(word(p), n), answerOf(w.asked(slices.Repeat(word(p), n))))
		}
	}
	w.isWord(t, slices.Repeat(word(plain("ab"), quoted("c")), api.MaxWord/3), strings.Repeat("abc", api.MaxWord/3))
	w.isNoWord(t, append(slices.Repeat(word(plain("ab"), quoted("c")), api.MaxWord/3), plain("d")), api.ErrLong)
	// What would be too much is too much, though less stands behind it.
	w.isNoWord(t, word(plain(sized(100)), plain(sized(100)), plain("a")), api.ErrLong)
	w.isNoWord(t, word(plain(sized(200)), variable("two")), api.ErrLong)
	// Bytes are counted, not runes.
	w.isWord(t, word(plain(strings.Repeat("\u00e9", api.MaxWord/2))), strings.Repeat("\u00e9", api.MaxWord/2))
	w.isNoWord(t, word(plain(strings.Repeat("\u00e9", api.MaxWord/2)), plain("e")), api.ErrLong)
	w.isNoWord(t, word(plain(strings.Repeat("\u00e9", api.MaxWord))), api.ErrLong)
}

// Of a word that has too many words, and one that is too long, the number is told.
func TestWordOfTooManyAndTooLong(t *testing.T) {
	w := usual()
	for _, great := range [][]lex.Piece{both(), slices.Concat(tooLong(), tooMany()), slices.Concat(tooMany(), tooLong()), slices.Concat(tooMany()[1:], tooLong(), tooMany()[1:])} {
		w.isNoWord(t, great, api.ErrFull)
		w.isNoWord(t, append(great, right()...), api.ErrFull)
		w.isNoWord(t, append(right(), great...), api.ErrFull)
	}
	w.isNoWord(t, tooMany(), api.ErrFull)
	w.isNoWord(t, tooLong(), api.ErrLong)
	long := world{out: []expand.Output{{"p", strings.Repeat(sized(api.MaxWord+1)+" ", api.MaxWords)}, {"q", strings.Repeat(sized(api.MaxWord+1)+" ", api.MaxWords+1)}}}
	long.isNoWord(t, word(back("p")), api.ErrLong)
	long.isNoWord(t, word(back("q")), api.ErrFull)
	long.isNoWord(t, word(back("p"), back("p")), api.ErrFull)
}

// Great words

// Neither many pieces, nor many words or bytes of them, make a call work for ever.
func TestGreatWords(t *testing.T) {
	const great = 1 << 18
	w := usual()
	w.out = append(w.out, expand.Output{Command: "spaces", Text: strings.Repeat(" ", great)}, expand.Output{Command: "words", Text: strings.Repeat("a ", great)}, expand.Output{Command: "word", Text: sized(great)})
	w.isNoWord(t, slices.Repeat(word(plain("a")), great), api.ErrLong)
	w.isNoWord(t, slices.Repeat(word(plain(sized(5000))), great), api.ErrLong)
	w.isNoWord(t, slices.Repeat(word(variable("lots")), great/4), api.ErrFull)
	w.isNoWord(t, slices.Repeat(word(put("lots", "%", "%%")), great/4), api.ErrFull)
	w.isNoWord(t, slices.Repeat(word(back("words")), great/4), api.ErrFull)
	w.isNoWord(t, slices.Repeat(word(back("word")), great/4), api.ErrLong)
	w.isWord(t, slices.Repeat(word(back("spaces")), great/4))
	w.isWord(t, append(slices.Repeat(word(plain(""), variable("none"), back("nil")), great/4), quoted("")), "")
	w.isNoWord(t, append(slices.Repeat(word(plain("a")), great), lex.Piece{Kind: -1}), api.ErrKind)
	w.isNoWord(t, append(slices.Repeat(word(back("words"), back("word")), great/4), back("nothing")), api.ErrNone)
}

func TestGreatOutputs(t *testing.T) {
	const great = 1 << 17
	var out []expand.Output
	var pieces []lex.Piece
	for _, command := range many(great) {
		out = append(out, expand.Output{Command: command, Text: " \n"})
		pieces = append(pieces, back(command))
	}
	w := world{out: out}
	w.isWord(t, pieces)
	w.isWord(t, append(pieces, quoted("")), "")
	w.isNoWord(t, append(pieces, back("nothing")), api.ErrNone)
}
