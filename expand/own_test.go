package expand_test

import (
	"slices"
	"testing"

	"millwright/env"
	"millwright/expand"
	"millwright/lex"
)

// Rules for every call

// texts is texts of all kinds of pieces, right ones and wrong ones.
func texts() []string {
	return []string{
		"", "a", "a b c", "'a b' ''", "$one", "$two", "p${two}.c", "${many:%.c=%.o}", "$two$two", "`{p q}", "a`{r}b `{o}", "$none", "`{nil}", "$hole x$odd", "$lots $lots",
		"`{nothing}", "a `{nothing} b", "$lots $lots $lots", "$lots$lots$lots", sized(121), "${one:a=" + sized(121) + "}", "$two'", "$", "`",
	}
}

// roomy is a list with room behind it, which has a member of its own there.
func roomy[T any](list []T, behind T) []T {
	return append(slices.Clone(list), behind, behind)[:len(list)]
}

// whole is a list with the room behind it.
func whole[T any](list []T) []T { return list[:cap(list)] }

// over writes over a list, and over all the room behind it.
func over[T any](list []T, by T) {
	for i := range whole(list) {
		whole(list)[i] = by
	}
}

// given is what calls are given, each list of it with room behind.
type given struct {
	text string
	list [][]lex.Piece
	env  *env.Env
	out  []expand.Output
}

// of is what calls are given of a text (no words, if it isn't right).
func of(t *testing.T, w world, s string) given {
	t.Helper()
	list, _ := lex.Words(s)
	for i := range list {
		list[i] = roomy(list[i], back("room"))
	}
	return given{s, roomy(list, word(lex.Piece{Kind: 9}, back("room"))), w.env(t), roomy(w.out, expand.Output{Command: "o", Text: "room"})}
}

// calls is the calls, each by its name; those of one word are of the first one.
func calls() map[string]func(given) answer {
	return map[string]func(given) answer{
		"Word": func(g given) answer {
			if len(g.list) == 0 {
				return answer{}
			}
			return answerOf(expand.Word(g.list[0], g.env, g.out))
		},
		"Words":    func(g given) answer { return answerOf(expand.Words(g.list, g.env, g.out)) },
		"Text":     func(g given) answer { return answerOf(expand.Text(g.text, g.env, g.out)) },
		"Commands": func(g given) answer { return answerOf(expand.Commands(g.list), nil) },
		"Find": func(g given) answer {
			text, _ := expand.Find("o", g.out)
			return answerOf([]string{text}, nil)
		},
	}
}

// stays wants that what is given is what it was, with all the room behind it.
func (g given) stays(t *testing.T, what string, was given, vars []env.Var) {
	t.Helper()
	if !lex.Same(g.list, was.list) || !lex.Same(whole(g.list), whole(was.list)) {
		t.Errorf("%s: the words are %s, not %s", what, shown(whole(g.list)...), shown(whole(was.list)...))
	}
	for i, w := range g.list {
		if !slices.Equal(whole(w), whole(was.list[i])) {
			t.Errorf("%s: behind word %d there is %s", what, i, shown(whole(w)))
		}
	}
	if !slices.Equal(whole(g.out), whole(was.out)) {
		t.Errorf("%s: the outputs are others", what)
	}
	if !sameVars(g.env.List(), vars) {
		t.Errorf("%s: the variables are others", what)
	}
}

func sameVars(a, b []env.Var) bool {
	return slices.EqualFunc(a, b, func(v, w env.Var) bool {
		return v.Name == w.Name && v.Level == w.Level && v.Hidden == w.Hidden && sameList(v.Words, w.Words)
	})
}

func TestNoCallChangesWhatItIsGiven(t *testing.T) {
	for what, call := range calls() {
		for _, s := range texts() {
			g, was := of(t, usual(), s), of(t, usual(), s)
			vars := g.env.List()
			first := call(g)
			g.stays(t, what+" of "+told(s), was, vars)
			if second := call(g); !second.is(first) {
				t.Errorf("%s of %s is %s, and then %s", what, told(s), first.told(), second.told())
			}
			g.stays(t, what+" of "+told(s)+" twice", was, vars)
		}
	}
}

// Writing over an answer, or appending to it, changes nothing else.
func TestAnswersAreTheCallers(t *testing.T) {
	for what, call := range calls() {
		for _, s := range texts() {
			g, was := of(t, usual(), s), of(t, usual(), s)
			vars := g.env.List()
			first, second, want := call(g), call(g), call(was)
			over(first.list, "written over")
			_ = append(first.list, "more")
			g.stays(t, what+" of "+told(s)+", written over", was, vars)
			if third := call(g); !second.is(want) || !third.is(want) {
				t.Errorf("answers of %s of %s share their room: %s, %s", what, told(s), second.told(), third.told())
			}
		}
	}
}

// Writing over what was given changes no answer.
func TestAnswersAreApartFromWhatWasGiven(t *testing.T) {
	for what, call := range calls() {
		for _, s := range texts() {
			g := of(t, usual(), s)
			got, want := call(g), call(of(t, usual(), s))
			for _, w := range g.list {
				over(w, plain("written over"))
			}
			over(g.list, word(plain("written over")))
			over(g.out, expand.Output{Command: "p q", Text: "written over"})
			for _, v := range g.env.List() {
				if err := g.env.Set(env.Var{Name: v.Name, Words: []string{"written", "over"}, Level: 2}); err != nil {
					t.Fatal(err)
				}
			}
			if !got.is(want) {
				t.Errorf("%s of %s is %s behind its being told, not %s", what, told(s), got.told(), want.told())
			}
		}
	}
}

// Nothing is kept from one call to the next: each is by the variables and outputs that it is given.
func TestCallsAreByWhatTheyAreGiven(t *testing.T) {
	e := env.New()
	out := []expand.Output{{"p", "first"}}
	pieces := word(variable("x"), plain("-"), back("p"))
	for _, c := range []struct {
		words []string
		text  string
		want  []string
	}{{nil, "a b", []string{"-a", "b"}}, {[]string{"v"}, "", []string{"v-"}}, {[]string{"v", "w"}, "a", []string{"v", "w-a"}}, {nil, "", []string{"-"}}} {
		if err := e.Set(env.Var{Name: "x", Words: c.words}); err != nil {
			t.Fatal(err)
		}
		out[0].Text = c.text
		list := [][]lex.Piece{pieces}
		holds(t, "Word", list, answerOf(expand.Word(pieces, e, out)), answer{list: c.want})
		holds(t, "Words", list, answerOf(expand.Words(list, e, out)), answer{list: c.want})
	}
	e.Unset("x")
	holds(t, "Word", [][]lex.Piece{pieces}, answerOf(expand.Word(pieces, e, out)), answer{list: []string{"-"}})
}

// Words that share their pieces, and pieces that share their room, are each what they are.
func TestSharedWords(t *testing.T) {
	w := usual()
	pieces := word(plain("a"), variable("two"), back("p q"), quoted(""))
	w.areWords(t, [][]lex.Piece{pieces, pieces, pieces[1:2], pieces[:1], pieces[3:]}, "ab", "cp", "q", "ab", "cp", "q", "b", "c", "a", "")
}

// Texts are handed in as they are: bytes that were made a text don't reach what is answered.
func TestTextsAreKept(t *testing.T) {
	s, command, text := []byte("a'b' `{p}"), []byte("p"), []byte("q r")
	out := []expand.Output{{string(command), string(text)}}
	got := answerOf(expand.Text(string(s), nil, out))
	found, _ := expand.Find("p", out)
	clear(s)
	clear(command)
	clear(text)
	if !got.is(answer{list: []string{"ab", "q", "r"}}) || found != "q r" {
		t.Errorf("behind cleared bytes: %s, %s", got.told(), told(found))
	}
}
