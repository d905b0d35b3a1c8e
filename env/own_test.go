package env_test

import (
	"slices"
	"testing"

	"millwright/api"
	"millwright/env"
)

// Rules for every call

// roomy is words with room behind them, which has words of its own.
func roomy(words ...string) []string {
	return append(words, "room", "behind", "it")[:len(words)]
}

// whole is words with the room behind them.
func whole(words []string) []string { return words[:cap(words)] }

// over writes over words, and over all the room behind them.
func over(words []string) {
	for i := range whole(words) {
		whole(words)[i] = "written over"
	}
}

// own is variables with words of many counts, none among them.
func own() []env.Var {
	return []env.Var{shown("a", 0), hidden("b", 1, "x"), shown("c", 2, "x", "y"), hidden("d", 0, "x", "y", "z"), shown("e", 1, many(api.MaxWords)...)}
}

func TestWhatIsHandedInIsApart(t *testing.T) {
	for _, v := range own() {
		for _, there := range [][]env.Var{nil, {shown(v.Name, 0, "old", "words")}} {
			e := made(t, there...)
			given := v
			given.Words = roomy(slices.Clone(v.Words)...)
			isSet(t, e, given, nil)
			over(given.Words)
			isOf(t, e, []env.Var{v}, "behind words that were written over")
			given.Words = append(given.Words, "more")
			isOf(t, e, []env.Var{v}, "behind words that were appended to")
		}
	}
}

// Two variables that were set with the same words, or with words that lie within one another's, are apart.
func TestSharedWordsAreApart(t *testing.T) {
	words := roomy("x", "y", "z")
	e := env.New()
	isSet(t, e, env.Var{Name: "a", Words: words}, nil)
	isSet(t, e, env.Var{Name: "b", Words: words}, nil)
	isSet(t, e, env.Var{Name: "c", Words: words[:1]}, nil)
	isSet(t, e, env.Var{Name: "d", Words: words[1:]}, nil)
	words[0] = "new"
	isSet(t, e, env.Var{Name: "a", Words: words}, nil)
	over(e.Get("b"))
	isOf(t, e, []env.Var{shown("a", 0, "new", "y", "z"), shown("b", 0, "x", "y", "z"), shown("c", 0, "x"), shown("d", 0, "y", "z")}, "words that are shared")
}

// overAll writes over variables and their words, and over all the room behind them.
func overAll(vars []env.Var) {
	vars = vars[:cap(vars)]
	for i := range vars {
		over(vars[i].Words)
		vars[i] = shown("written", 9, "over")
	}
}

func TestWhatIsHandedOutIsApart(t *testing.T) {
	writes := map[string]func(*env.Env){
		"Get": func(e *env.Env) {
			for _, v := range own() {
				over(e.Get(v.Name))
			}
		},
		"Get, appended to": func(e *env.Env) {
			for _, v := range own() {
				_ = append(e.Get(v.Name), "more")
			}
		},
		"Find": func(e *env.Env) {
			for _, v := range own() {
				got, _ := e.Find(v.Name)
				over(got.Words)
				got.Level, got.Hidden = 9, !got.Hidden
			}
		},
		"Find, appended to": func(e *env.Env) {
			for _, v := range own() {
				got, _ := e.Find(v.Name)
				got.Words = append(got.Words, "more")
			}
		},
		"List":  func(e *env.Env) { overAll(e.List()) },
		"Shown": func(e *env.Env) { overAll(e.Shown()) },
		"List, appended to": func(e *env.Env) {
			list := e.List()
			for i := range list {
				list[i].Words = append(list[i].Words, "more")
			}
			_ = append(list[:1], shown("more", 1))
		},
		"Shown, appended to": func(e *env.Env) {
			list := e.Shown()
			for i := range list {
				list[i].Words = append(list[i].Words, "more")
			}
			_ = append(list[:1], shown("more", 1))
		},
		"who isn't there": func(e *env.Env) {
			over(e.Get("none"))
			got, _ := e.Find("none")
			over(got.Words)
		},
	}
	for what, write := range writes {
		e := made(t, own()...)
		c := e.Copy()
		write(e)
		isOf(t, e, own(), what+" written over")
		isOf(t, c, own(), "the copy behind "+what)
		write(c)
		isOf(t, c, own(), what+" of the copy written over")
		isOf(t, e, own(), "what was copied behind "+what)
	}
}

func TestAnswersShareNoRoom(t *testing.T) {
	e := made(t, own()...)
	get, again := e.Get("c"), e.Get("c")
	found, _ := e.Find("c")
	foundAgain, _ := e.Find("c")
	list, listAgain, open := e.List(), e.List(), e.Shown()
	over(get)
	want := []string{"x", "y"}
	for what, got := range map[string][]string{"Get": again, "Find": found.Words, "Find again": foundAgain.Words, "List": list[2].Words, "List again": listAgain[2].Words, "Shown": open[1].Words} {
		if !slices.Equal(got, want) {
			t.Errorf("%s is %q behind a Get that was written over", what, got)
		}
	}
	over(found.Words)
	overAll(list)
	if !slices.Equal(again, want) || !slices.Equal(foundAgain.Words, want) || !sameVars(listAgain, own()) || len(open) != 3 || !slices.Equal(open[1].Words, want) {
		t.Error("answers share their room")
	}
}

// No two lists of one answer share any.
func TestWordsOfAnAnswerShareNoRoom(t *testing.T) {
	e := made(t, own()...)
	for i := range own() {
		list := e.List()
		over(list[i].Words)
		list[i].Words = append(list[i].Words, "more", "and", "more")
		if !sameVars(list[:i], own()[:i]) || !sameVars(list[i+1:], own()[i+1:]) {
			t.Errorf("words %d of List are others' too: %s", i, told(list...))
		}
	}
	isOf(t, e, own(), "behind all")
}

func TestNoCallChangesWhatItIsGiven(t *testing.T) {
	for _, v := range append(own(), shown("", 1, "a"), shown("x", 3, "a"), shown("x", 1, tooLong(), "b"), shown("x", 1, many(api.MaxWords+1)...)) {
		given := v
		given.Words = roomy(slices.Clone(v.Words)...)
		was := slices.Clone(whole(given.Words))
		e := made(t, hidden(name12, 1))
		_ = env.Check(given)
		_ = e.Set(given)
		_ = e.Set(given)
		_ = e.Set(env.Var{Name: given.Name, Words: []string{"other"}, Level: 2})
		_, _ = e.Get(given.Name), e.Unset(given.Name)
		if !sameVar(given, v) || !slices.Equal(whole(given.Words), was) {
			t.Errorf("a call changed %s, or the room behind it: %q", told(v), whole(given.Words))
		}
	}
}

// A call with an error changes nothing, and looks change nothing.
func TestLooksAndErrorsChangeNothing(t *testing.T) {
	e := made(t, own()...)
	for range 3 {
		_, _, _, _ = e.Get("a"), e.Get(""), e.List(), e.Shown()
		_, _ = e.Find("b")
		_, _ = e.Find("none")
		isSet(t, e.Copy(), shown("new", 1), nil)
		isSet(t, e, shown("c", 9, "w"), api.ErrRange)
		isSet(t, e, shown("c d", 2, "w"), api.ErrName)
		isSet(t, e, shown("c", 2, tooLong()), api.ErrLong)
		isSet(t, e, shown("none", 2, many(api.MaxWords+1)...), api.ErrFull)
		isOf(t, e, own(), "behind looks and errors")
		isNone(t, e, "none", "behind looks and errors")
	}
}

// Texts are handed in as they are: bytes that are made a text don't reach what is kept of it.
func TestTextsAreKept(t *testing.T) {
	name, word := []byte("name"), []byte("word")
	e := made(t, shown(string(name), 1, string(word)))
	clear(name)
	clear(word)
	isOf(t, e, []env.Var{shown("name", 1, "word")}, "behind cleared bytes")
}

func TestSameAnswersEachTime(t *testing.T) {
	c := chance(5)
	for range 300 {
		a, b := env.New(), env.New()
		for range 60 {
			call := c.anAct(api.MaxVars + 4)
			if call.unset {
				if a.Unset(call.v.Name) != b.Unset(call.v.Name) {
					t.Fatalf("%s isn't the same each time", call.told())
				}
				continue
			}
			one, other := a.Set(call.v), b.Set(call.v)
			if !wants(one, other) || !wants(env.Check(call.v), fault(call.v)) {
				t.Fatalf("%s tells %v, then %v", call.told(), one, other)
			}
		}
		if !sameVars(a.List(), b.List()) || !sameVars(a.List(), a.List()) || !sameVars(a.Shown(), b.Shown()) || !sameVars(a.Shown(), a.Shown()) {
			t.Fatalf("%s, then %s", told(a.List()...), told(b.List()...))
		}
	}
}

// What List and Shown tell is what Find tells, and a new Env that is set of List is the same.
func TestCallsAgree(t *testing.T) {
	c := chance(6)
	for range 300 {
		e := env.New()
		for range c.below(60) {
			call := c.anAct(api.MaxVars + 4)
			if call.unset {
				e.Unset(call.v.Name)
			} else {
				_ = e.Set(call.v)
			}
		}
		list := e.List()
		for i, v := range list {
			found, there := e.Find(v.Name)
			if !there || !sameVar(found, v) || !slices.Equal(e.Get(v.Name), v.Words) || env.Check(v) != nil || i > 0 && !below(list[i-1].Name, v.Name) {
				t.Fatalf("List is %s", told(list...))
			}
		}
		isOf(t, made(t, list...), list, "an Env of another one's List")
		isOf(t, e.Copy(), list, "a copy")
	}
}
