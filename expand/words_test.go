package expand_test

import (
	"slices"
	"strings"
	"testing"

	"millwright/api"
	"millwright/expand"
	"millwright/lex"
)

// P17.1, of Words

// areWords wants what words are in a world.
func (w world) areWords(t *testing.T, list [][]lex.Piece, want ...string) {
	t.Helper()
	holds(t, "Words", list, answerOf(expand.Words(list, w.env(t), w.out)), answer{list: want})
}

// areNoWords wants which error words have in a world.
func (w world) areNoWords(t *testing.T, list [][]lex.Piece, want error) {
	t.Helper()
	holds(t, "Words", list, answerOf(expand.Words(list, w.env(t), w.out)), answer{err: want})
}

// words is words of a piece each.
func words(pieces ...lex.Piece) [][]lex.Piece {
	var out [][]lex.Piece
	for _, p := range pieces {
		out = append(out, word(p))
	}
	return out
}

func TestWords(t *testing.T) {
	w := usual()
	w.areWords(t, nil)
	w.areWords(t, [][]lex.Piece{})
	w.areWords(t, [][]lex.Piece{nil})
	w.areWords(t, [][]lex.Piece{nil, {}, nil})
	w.areWords(t, words(plain("a")), "a")
	w.areWords(t, words(plain("a"), plain("b")), "a", "b")
	w.areWords(t, words(plain("b"), plain("a"), plain("b")), "b", "a", "b")
	w.areWords(t, words(variable("two"), variable("two")), "b", "c", "b", "c")
	w.areWords(t, words(back("r"), plain("a"), variable("many"), quoted(" "), put("two", "%", "%%"), back("p q")), "r", "s", "t", "u", "a", "x.c", "y.h", "d/z.c", "a", " ", "bb", "cc", "p", "q")
	w.areWords(t, [][]lex.Piece{{plain("a"), variable("two")}, {variable("two"), plain("a")}, {variable("two"), back("p q")}}, "ab", "c", "b", "ca", "b", "cp", "q")
	// Nothing goes on from one word to the next one.
	w.areWords(t, words(variable("tail"), variable("head"), variable("hole")), "a", "", "", "a", "a", "", "b")
	w.areWords(t, words(variable("empties"), variable("empties")), "", "", "", "", "", "")
}

// A word that gives no word leaves nothing, wherever it stands; an empty one with a Quoted piece stays.
func TestWordsThatGiveNoWord(t *testing.T) {
	w := usual()
	for _, p := range []lex.Piece{plain(""), variable("none"), variable("nobody"), variable("empty"), put("none", "%", "b"), put("one", "%", ""), back("nil"), back("blank")} {
		w.areWords(t, words(p))
		w.areWords(t, words(p, p, p))
		w.areWords(t, words(p, plain("a")), "a")
		w.areWords(t, words(plain("a"), p), "a")
		w.areWords(t, words(plain("a"), p, plain("b")), "a", "b")
		w.areWords(t, words(p, variable("two"), p, p, plain("a"), p), "b", "c", "a")
		w.areWords(t, words(p, quoted(""), p), "")
		w.areWords(t, words(quoted(""), p, quoted("")), "", "")
		// A Quoted piece of another word keeps none.
		w.areWords(t, [][]lex.Piece{{quoted("")}, {p}, {quoted("a")}, {p, plain("")}, {p, quoted("")}}, "", "a", "")
	}
}

// The first error is told, word by word.
func TestWordsThatHaveAnError(t *testing.T) {
	w := usual()
	for _, first := range wrong() {
		w.areNoWords(t, words(first.piece), first.err)
		w.areNoWords(t, words(first.piece, plain("a"), variable("two")), first.err)
		w.areNoWords(t, words(plain("a"), first.piece, variable("two")), first.err)
		w.areNoWords(t, words(plain("a"), variable("two"), first.piece), first.err)
		w.areNoWords(t, words(quoted(""), variable("none"), first.piece, back("nil")), first.err)
		for _, second := range wrong() {
			w.areNoWords(t, words(first.piece, second.piece), first.err)
			w.areNoWords(t, words(plain("a"), first.piece, plain("b"), second.piece, plain("c")), first.err)
			w.areNoWords(t, [][]lex.Piece{{plain("a"), first.piece}, {second.piece, plain("b")}}, first.err)
		}
		// Each word is read whole, with its bounds, ahead of the next one.
		for _, great := range []struct {
			pieces []lex.Piece
			err    error
		}{{tooMany(), api.ErrFull}, {tooLong(), api.ErrLong}, {both(), api.ErrFull}} {
			w.areNoWords(t, [][]lex.Piece{great.pieces, {first.piece}}, great.err)
			w.areNoWords(t, [][]lex.Piece{{plain("a")}, great.pieces, {first.piece}}, great.err)
			w.areNoWords(t, [][]lex.Piece{{first.piece}, great.pieces}, first.err)
			w.areNoWords(t, [][]lex.Piece{append(great.pieces, first.piece), tooMany()}, first.err)
		}
	}
	w.areNoWords(t, [][]lex.Piece{tooMany(), tooLong()}, api.ErrFull)
	w.areNoWords(t, [][]lex.Piece{tooLong(), tooMany()}, api.ErrLong)
}

func TestWordsOfMaxWords(t *testing.T) {
	w := usual()
	for n := range 3 * api.MaxWords {
		list := words(slices.Repeat(word(plain("a")), n)...)
		pairs := words(slices.Repeat(word(variable("two")), n)...)
		if n <= api.MaxWords {
			w.areWords(t, list, slices.Repeat([]string{"a"}, n)...)
		} else {
			w.areNoWords(t, list, api.ErrFull)
		}
		if 2*n <= api.MaxWords {
			w.areWords(t, pairs, slices.Repeat([]string{"b", "c"}, n)...)
		} else {
			w.areNoWords(t, pairs, api.ErrFull)
		}
	}
	all := world{vars: map[string][]string{"all": many(api.MaxWords), "most": many(api.MaxWords - 1), "none": nil, "one": {"a"}}}
	for _, none := range []lex.Piece{plain(""), variable("none")} {
		all.areWords(t, words(none, variable("all"), none), many(api.MaxWords)...)
		all.areWords(t, words(variable("most"), none, plain("a"), none), append(many(api.MaxWords-1), "a")...)
		all.areWords(t, words(none, quoted(""), none, variable("most")), append([]string{""}, many(api.MaxWords-1)...)...)
	}
	for _, one := range []lex.Piece{plain("a"), quoted(""), variable("one")} {
		all.areNoWords(t, words(variable("all"), one), api.ErrFull)
		all.areNoWords(t, words(one, variable("all")), api.ErrFull)
		all.areNoWords(t, words(one, variable("most"), one), api.ErrFull)
		all.areNoWords(t, words(variable("all"), variable("none"), one), api.ErrFull)
	}
	all.areNoWords(t, words(variable("all"), variable("all")), api.ErrFull)
}

// That there are too many words at all is told behind the error of each.
func TestWordsThatAreTooManyAndHaveAnError(t *testing.T) {
	w := usual()
	many := words(slices.Repeat(word(variable("lots")), 5)...)
	w.areNoWords(t, many, api.ErrFull)
	for _, c := range wrong() {
		for _, p := range right() {
			w.areNoWords(t, append(slices.Clone(many), word(p, c.piece)), c.err)
			w.areNoWords(t, append(append(slices.Clone(many), word(c.piece, p)), many...), c.err)
		}
		for _, n := range []int{api.MaxWords, api.MaxWords + 1, 1000} {
			w.areNoWords(t, append(words(slices.Repeat(word(plain("a")), n)...), word(c.piece)), c.err)
		}
	}
	w.areNoWords(t, append(slices.Clone(many), tooLong()), api.ErrLong)
	w.areNoWords(t, append(slices.Clone(many), tooMany(), tooLong()), api.ErrFull)
}

func TestWordsWithoutAPlan(t *testing.T) {
	w := usual()
	e := w.env(t)
	c := chance(2)
	found := make(map[error]int)
	for range 20000 {
		var list [][]lex.Piece
		for range c.below(10) {
			list = append(list, c.word(w, 8))
		}
		w.isAsked(t, e, list...)
		_, err := w.askedAll(list)
		found[err]++
	}
	for _, err := range []error{nil, api.ErrKind, api.ErrNone, api.ErrLong, api.ErrFull} {
		if found[err] < 200 {
			t.Errorf("just %d lists have %v", found[err], err)
		}
	}
}

func TestGreatLists(t *testing.T) {
	const great = 1 << 18
	w := usual()
	w.out = append(w.out, expand.Output{Command: "spaces", Text: strings.Repeat(" ", great)})
	w.areWords(t, make([][]lex.Piece, great))
	w.areWords(t, words(slices.Repeat(word(back("spaces")), great)...))
	w.areWords(t, append(words(slices.Repeat(word(variable("none")), great)...), word(plain("a"))), "a")
	w.areNoWords(t, words(slices.Repeat(word(plain("a")), great)...), api.ErrFull)
	w.areNoWords(t, words(slices.Repeat(word(variable("lots")), great/4)...), api.ErrFull)
	w.areNoWords(t, append(words(slices.Repeat(word(plain("a")), great)...), word(back("nothing"))), api.ErrNone)
}

// P17.1, of Text

// isText wants what a text is in a world.
func (w world) isText(t *testing.T, s string, want ...string) {
	t.Helper()
	if got := answerOf(expand.Text(s, w.env(t), w.out)); !got.is(answer{list: want}) {
		t.Errorf("Text of %s is %s, not %s", told(s), got.told(), told(want...))
	}
}

// isNoText wants which error a text has in a world.
func (w world) isNoText(t *testing.T, s string, want error) {
	t.Helper()
	if got := answerOf(expand.Text(s, w.env(t), w.out)); !got.is(answer{err: want}) {
		t.Errorf("Text of %s is %s, not %v", told(s), got.told(), want)
	}
}

func TestText(t *testing.T) {
	w := usual()
	for _, s := range []string{"", " ", "\n", " \t\n ", "$none", "${none}", "$nobody", "$empty", "${none:%=b}", "${one:a=}", "`{nil}", "`{blank}", " $none `{nil}\n$empty$none`{nil} "} {
		w.isText(t, s)
	}
	w.isText(t, "a", "a")
	w.isText(t, " a b\tc\n", "a", "b", "c")
	w.isText(t, "'a b'", "a b")
	w.isText(t, "''", "")
	w.isText(t, "'' a ''", "", "a", "")
	w.isText(t, "''''", "'")
	w.isText(t, "'it''s' '$one' '`{o}'", "it's", "$one", "`{o}")
	w.isText(t, "$one", "a")
	w.isText(t, "${one}", "a")
	w.isText(t, "$two", "b", "c")
	w.isText(t, "p${one}.c", "pa.c")
	w.isText(t, "p${two}.c", "pb", "c.c")
	w.isText(t, "p$two.c", "pb", "c.c")
	w.isText(t, "$twop")
	w.isText(t, "$two$two", "b", "cb", "c")
	w.isText(t, "$two $two", "b", "c", "b", "c")
	w.isText(t, "$two''$none", "b", "c")
	w.isText(t, "$none''$none", "")
	w.isText(t, "$none'' $none", "")
	w.isText(t, "a$none''b", "ab")
	w.isText(t, "${two:%=%.o}", "b.o", "c.o")
	w.isText(t, "-${many:%.c=%.o}-", "-x.o", "y.h", "d/z.o", "a-")
	w.isText(t, "${many:&.c=&.o} ${many:d/%=e/%}", "x.o", "y.h", "d/z.c", "a", "x.c", "y.h", "e/z.c", "a")
	w.isText(t, "${two:b=} ${two:%=}", "", "c", "", "")
	w.isText(t, "`{o}", "o")
	w.isText(t, "`{p q}", "p", "q")
	w.isText(t, "`{}", "q")
	w.isText(t, "a`{p q}b", "ap", "qb")
	w.isText(t, "`{r}`{p q} `{odd}", "r", "s", "t", "up", "q", "'a", "b'", "$one", "`{o}\r")
	w.isText(t, "x'y z'$one${two}${two:%=%%}`{p q}w", "xy zab", "cbb", "ccp", "qw")
	w.isText(t, "$one#$one =:<|;&()[]*?^~\\ {}", "a#a", "=:<|;&()[]*?^~\\", "{}")
	w.isText(t, "\\$one", "\\a")
	x := world{vars: map[string][]string{"x": {"a", "b"}}}
	x.isText(t, "p$x.c", "pa", "b.c")
}

func TestTextThatIsNotRight(t *testing.T) {
	w := usual()
	// What layer 13 tells of the whole text is ahead of what this layer tells of a word of it.
	for _, c := range []struct {
		s   string
		err error
	}{
		{"'", api.ErrQuote}, {"'a", api.ErrQuote}, {"a'b c", api.ErrQuote}, {"'''", api.ErrQuote},
		{"$", api.ErrName}, {"$ a", api.ErrName}, {"$'a'", api.ErrName}, {"${}", api.ErrName}, {"${:a=b}", api.ErrName}, {"$abcdefghijklm", api.ErrName}, {"$$one", api.ErrName},
		{"${one", api.ErrForm}, {"${one }", api.ErrForm}, {"${one:a}", api.ErrForm}, {"${one:a=b", api.ErrForm}, {"`", api.ErrForm}, {"`a", api.ErrForm}, {"`{a", api.ErrForm}, {"`{a{b}}", api.ErrForm},
	} {
		for _, ahead := range []string{"", "a", "a ", "$one ", "`{nothing}", "`{nothing} ", sized(5000) + " ", strings.Repeat("a ", 50), "${one:a=" + sized(121) + "} "} {
			w.isNoText(t, ahead+c.s, c.err)
		}
	}
	w.isNoText(t, "' $ `", api.ErrQuote)
	w.isNoText(t, "$ ' `", api.ErrName)
	w.isNoText(t, "` $ '", api.ErrForm)
}

func TestTextOfWordsThatHaveAnError(t *testing.T) {
	w := usual()
	w.isNoText(t, "`{nothing}", api.ErrNone)
	w.isNoText(t, "a `{nothing} b", api.ErrNone)
	w.isNoText(t, "a`{nothing}b", api.ErrNone)
	w.isNoText(t, "a '`{nothing}' `{ o}", api.ErrNone)
	w.isNoText(t, "${one:a="+sized(121)+"}", api.ErrLong)
	w.isNoText(t, "${one:a="+sized(121)+"} `{nothing}", api.ErrLong)
	w.isNoText(t, "`{nothing} ${one:a="+sized(121)+"}", api.ErrNone)
	w.isNoText(t, sized(121), api.ErrLong)
	w.isNoText(t, "a "+sized(121)+" b", api.ErrLong)
	w.isNoText(t, "'"+sized(121)+"'", api.ErrLong)
	w.isNoText(t, sized(120)+"$one", api.ErrLong)
	w.isNoText(t, sized(120)+"$two", api.ErrLong)
	w.isNoText(t, sized(121)+" `{nothing}", api.ErrLong)
	w.isNoText(t, "`{nothing} "+sized(121), api.ErrNone)
	w.isNoText(t, "$lots$lots$lots", api.ErrFull)
	w.isNoText(t, "$lots$lots$lots `{nothing}", api.ErrFull)
	w.isNoText(t, "$lots $lots $lots", api.ErrFull)
	w.isNoText(t, "$lots $lots $lots `{nothing}", api.ErrNone)
	w.isNoText(t, "$lots $lots $lots "+sized(121), api.ErrLong)
	w.isNoText(t, strings.Repeat("a ", 41), api.ErrFull)
	w.isNoText(t, strings.Repeat("'' ", 41), api.ErrFull)
	w.isText(t, strings.Repeat("a ", 40), slices.Repeat([]string{"a"}, 40)...)
	w.isText(t, strings.Repeat("'' ", 40), slices.Repeat([]string{""}, 40)...)
	w.isText(t, strings.Repeat("$none ", 400)+sized(120), sized(120))
}

// Text is Words of the text's words.
func TestTextWithoutAPlan(t *testing.T) {
	w := usual()
	e := w.env(t)
	c := chance(3)
	right := 0
	for range 30000 {
		var s strings.Builder
		for range c.below(8) {
			parts := []string{" ", "\n", "a", "p.", "''", "'q ", "'", "$one", "$two", "${none}", "${many}", "${two:%=&%}", "${one:a=", "}", "`{p q}", "`{r}", "`{nil}", "`{nothing}", "$", "$nobody", "$empty", c.of("ab'$`{} \n", 4)}
			s.WriteString(parts[c.below(len(parts))])
		}
		got := answerOf(expand.Text(s.String(), e, w.out))
		list, err := lex.Words(s.String())
		want := answer{err: err}
		if err == nil {
			want = answerOf(w.askedAll(list))
			right++
		}
		if !got.is(want) {
			t.Errorf("Text of %s is %s, not %s", told(s.String()), got.told(), want.told())
		}
	}
	if right < 5000 {
		t.Errorf("just %d texts are right", right)
	}
}

func TestGreatTexts(t *testing.T) {
	const great = 1 << 18
	w := usual()
	w.isText(t, strings.Repeat(" \n\t", great))
	w.isText(t, strings.Repeat("$none", great)+"''", "")
	w.isNoText(t, strings.Repeat("a ", great), api.ErrFull)
	w.isNoText(t, strings.Repeat("$one", great), api.ErrLong)
	w.isNoText(t, strings.Repeat("`{p q}", great), api.ErrFull)
	w.isNoText(t, strings.Repeat("a ", great)+"$", api.ErrName)
	w.isNoText(t, sized(great), api.ErrLong)
}
