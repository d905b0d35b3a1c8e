package stmt_test

import (
	"errors"
	"slices"
	"testing"

	"millwright/lex"
	"millwright/lines"
	"millwright/stmt"
)

// Rules for every call

// given is texts of which some are right and some aren't.
func given() []string {
	return append(beside(), "word\n", "a: b\n\n\tmake\n", "x y = a\n", "a:V\n", "x = a\n<\n", "x = $\n", "'a\n", "a b c d e: f g h i j\nx = k l m n o\n<p q r s t\n", "a'b'$c${d:e=f}`{g}: a'b'$c${d:e=f}`{g} a'b'$c\n\tmake\nx = a'b'$c${d:e=f}`{g} b\n")
}

// roomy is a text's lines, with others in the room behind them.
func roomy(text string) []lines.Line {
	list, _ := lines.Split(text)
	n := len(list)
	return append(list, recipe(-1, "room"), logical(-2, "room: room"), recipe(-3, "room"))[:n]
}

func TestParseChangesNoList(t *testing.T) {
	for _, text := range given() {
		list := roomy(text)
		all := list[:len(list)+3]
		want := slices.Clone(all)
		first, firstErr := stmt.Parse(list)
		second, secondErr := stmt.Parse(list)
		if !slices.Equal(all, want) {
			t.Errorf("Parse changed the lines of %s to %s", shown(text), shownLines(all))
		}
		if told(first) != told(second) || (firstErr == nil) != (secondErr == nil) {
			t.Errorf("Parse of %s is %s, and then %s", shown(text), told(first), told(second))
		}
		// What is in the room behind isn't read.
		isModelled(t, list)
	}
}

// withRoom is a row of words that has other ones in the room behind it, and behind each word.
func withRoom(words [][]lex.Piece) [][]lex.Piece {
	out := make([][]lex.Piece, 0, len(words)+2)
	for _, w := range words {
		out = append(out, append(slices.Clone(w), back("room"))[:len(w)])
	}
	return append(out, word(plain("room")), word(quoted("room")))[:len(words)]
}

// wholeRoom is words and all the room behind them.
func wholeRoom(words [][]lex.Piece) string {
	var all [][]lex.Piece
	for _, w := range words[:cap(words)] {
		all = append(all, w[:cap(w)])
	}
	return wordsText(all)
}

func TestSameChangesNoStatement(t *testing.T) {
	for _, s := range unlike() {
		a, b := s, s
		a.Heads, a.Words = withRoom(s.Heads), withRoom(s.Words)
		b.Heads, b.Words = withRoom(s.Heads), withRoom(s.Words)
		want, wantHeads, wantWords := whole(s), wholeRoom(a.Heads), wholeRoom(a.Words)
		if !stmt.Same(a, b) || !stmt.Same(a, s) || stmt.Same(a, with(s, -5, "")) {
			t.Errorf("with room behind it Same tells another thing of\n%s", want)
		}
		// What is in the room behind isn't read.
		if len(a.Heads) > 0 {
			a.Heads[:len(a.Heads)+1][len(a.Heads)] = word(variable("other"))
			if !stmt.Same(a, b) {
				t.Errorf("another room behind it makes another thing of\n%s", want)
			}
			a.Heads[:len(a.Heads)+1][len(a.Heads)] = word(plain("room"))
		}
		if whole(a) != want || wholeRoom(a.Heads) != wantHeads || wholeRoom(a.Words) != wantWords {
			t.Errorf("Same changed\n%s to\n%s", want, whole(a))
		}
	}
}

// writeOver writes over all words and pieces, and over all the room behind them.
func writeOver(words [][]lex.Piece) {
	other := lex.Piece{Kind: 99, Text: "written", From: "over", To: "it"}
	words = words[:cap(words)]
	for i, w := range words {
		w = w[:cap(w)]
		for k := range w {
			w[k] = other
		}
		words[i] = []lex.Piece{other}
	}
}

func TestAnswersAreTheCallers(t *testing.T) {
	for _, text := range given() {
		list := roomy(text)
		if _, err := stmt.Of(text); err != nil {
			continue
		}
		first, _ := stmt.Parse(list)
		want := told(first)
		second, _ := stmt.Parse(list)
		third, _ := stmt.Of(text)
		for i := range first {
			writeOver(first[i].Heads)
			writeOver(first[i].Words)
		}
		first = first[:cap(first)]
		for i := range first {
			first[i] = on(99, command("over"))
		}
		if told(second) != want || told(third) != want {
			t.Errorf("answers of %s share their room", shown(text))
		}
		isParsed(t, list, second...)
		isOf(t, text, third...)
	}
}

// No list of an answer shares its room with another one of it.
func TestListsOfAnAnswerShareNoRoom(t *testing.T) {
	for _, text := range given() {
		want, err := stmt.Of(text)
		if err != nil {
			continue
		}
		for i := range want {
			for part := range 2 {
				got, _ := stmt.Of(text)
				lists := [2]*[][]lex.Piece{&got[i].Heads, &got[i].Words}
				writeOver(*lists[part])
				*lists[part] = [2][][]lex.Piece{want[i].Heads, want[i].Words}[part]
				if told(got) != told(want) {
					t.Errorf("writing over list %d of statement %d of %s makes\n%s", part, i, shown(text), told(got))
				}
			}
		}
	}
}

func TestSameAnswersEachTime(t *testing.T) {
	c := chance(9)
	for range 5000 {
		text := c.mkfile()
		one, oneErr := stmt.Of(text)
		_, _ = stmt.Of(c.mkfile())
		other, otherErr := stmt.Of(text)
		at, _ := lines.Where(oneErr)
		again, _ := lines.Where(otherErr)
		if told(one) != told(other) || at != again || (oneErr == nil) != (otherErr == nil) || oneErr != nil && !errors.Is(otherErr, errors.Unwrap(oneErr)) {
			t.Fatalf("Of(%s) is %s (%v), then %s (%v)", shown(text), told(one), oneErr, told(other), otherErr)
		}
	}
}

// Texts are handed in as they are: bytes that were made a text don't reach what is answered.
func TestAnswersKeepWhatTheyTell(t *testing.T) {
	b := []byte("x =U= a\na:VPcmp: b 'c' $d\n\tmake\n<|gen it\n")
	list, err := stmt.Of(string(b))
	want := told(list)
	clear(b)
	if err != nil || told(list) != want {
		t.Errorf("behind cleared bytes: %s, not %s (%v)", told(list), want, err)
	}
}
