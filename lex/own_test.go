package lex_test

import (
	"errors"
	"slices"
	"testing"

	"millwright/lex"
)

// Rules for every call

// rooms is texts of which the answers have rows with room behind them.
func rooms() []string {
	return []string{"a", "a b", "a b c", "a b c d e", "a'b'$c", "a'b'$c${d:e=f}`{g}", "a'b' 'c'd $e$f ${g:h=i}j k"}
}

// writeOver writes over all words and pieces, and over all the room behind them.
func writeOver(words [][]lex.Piece) {
	other := lex.Piece{Kind: 99, Text: "written", From: "over", To: "it"}
	words = words[:cap(words)]
	for i, w := range words {
		w = w[:cap(w)]
		for k := range w {
			w[k] = other
		}
		words[i] = []lex.Piece{other}
	}
}

func TestAnswersAreTheCallers(t *testing.T) {
	for _, s := range rooms() {
		want := read(s).words
		first, _ := lex.Words(s)
		second, _ := lex.Words(s)
		writeOver(first)
		if third, err := lex.Words(s); !same(second, want) || !same(third, want) || err != nil {
			t.Errorf("answers of %q share their room, or aren't the same each time: %s, %s", s, told(second), told(third))
		}
	}
}

func TestWordsOfAnAnswerShareNoRoom(t *testing.T) {
	for _, s := range rooms() {
		want := read(s).words
		for i := range want {
			got, _ := lex.Words(s)
			writeOver(got[i : i+1 : i+1])
			if !same(got[:i], want[:i]) || !same(got[i+1:], want[i+1:]) {
				t.Errorf("word %d of %q shares its room: %s", i, s, told(got))
			}
			got, _ = lex.Words(s)
			got[i] = append(got[i], plain("x"), plain("y"), plain("z"))
			if !same(got[:i], want[:i]) || !same(got[i+1:], want[i+1:]) {
				t.Errorf("the room behind word %d of %q is another one's: %s", i, s, told(got))
			}
		}
	}
}

func TestNoCallChangesWhatItIsGiven(t *testing.T) {
	for _, row := range unlike() {
		given := append(copied(row), word(plain("behind"), quoted("it")), nil)
		for i, w := range given {
			given[i] = append(w, variable("room"))[:len(w)]
		}
		want := whole(given)
		room := func() string {
			var all [][]lex.Piece
			for _, w := range given {
				all = append(all, w[:len(w)+1])
			}
			return whole(all)
		}
		wantRoom := room()
		lex.Same(given[:len(row)], given)
		lex.Same(given, given[:len(row)])
		lex.Same(given, given)
		for _, w := range given {
			lex.Text(w)
			lex.Literal(w)
		}
		if whole(given) != want || room() != wantRoom {
			t.Errorf("a call changed %s, or the room behind it: %s", want, whole(given))
		}
	}
}

// Texts are handed in as they are: bytes that are made a text don't reach what is answered of it.
func TestAnswersKeepWhatTheyTell(t *testing.T) {
	b := []byte("a'b' $c${d:e=f}`{g}")
	words, err := lex.Words(string(b))
	want := whole(words)
	clear(b)
	if err != nil || whole(words) != want {
		t.Errorf("Words is %s (%v), not %s", told(words), err, want)
	}
}

func TestSameAnswersEachTime(t *testing.T) {
	c := chance(5)
	for range 3000 {
		s, signs := c.text(30), c.text(4)
		one, oneErr := lex.Words(s)
		other, otherErr := lex.Words(s)
		if !same(one, other) || (oneErr == nil) != (otherErr == nil) || oneErr != nil && !errors.Is(otherErr, oneErr) {
			t.Fatalf("Words(%q) is %s, then %s", s, told(one), told(other))
		}
		if lex.Name(s) != lex.Name(s) || lex.Find(s, signs) != lex.Find(s, signs) || lex.Same(one, other) != lex.Same(other, one) {
			t.Fatalf("answers of %q aren't the same each time", s)
		}
		for _, w := range one {
			said, is := lex.Literal(w)
			again, isAgain := lex.Literal(slices.Clone(w))
			if lex.Text(w) != lex.Text(w) || said != again || is != isAgain {
				t.Fatalf("answers of %s aren't the same each time", told([][]lex.Piece{w}))
			}
		}
	}
}

// Same holds just where the words are told as the same, and each word that says something says it by its Plain and Quoted pieces alone.
func TestCallsAgree(t *testing.T) {
	c := chance(6)
	for range 20000 {
		a, _ := lex.Words(c.shapes())
		b, _ := lex.Words(c.of("ab' ", 5))
		d, _ := lex.Words(c.of("ab' ", 5))
		for _, pair := range [][2][][]lex.Piece{{a, a}, {a, b}, {b, d}} {
			if got, want := lex.Same(pair[0], pair[1]), same(pair[0], pair[1]); got != want {
				t.Fatalf("Same(%s, %s) is %v", told(pair[0]), told(pair[1]), got)
			}
		}
		for _, w := range a {
			want, wantIs := "", true
			for _, p := range w {
				want, wantIs = want+p.Text, wantIs && (p.Kind == lex.Plain || p.Kind == lex.Quoted)
			}
			if !wantIs {
				want = ""
			}
			if got, is := lex.Literal(w); got != want || is != wantIs {
				t.Fatalf("Literal(%s) is %q, %v", told([][]lex.Piece{w}), got, is)
			}
		}
	}
}
