package load_test

import (
	"errors"
	"fmt"
	"slices"
	"strings"
	"testing"

	"millwright/api"
	"millwright/env"
	"millwright/expand"
	"millwright/load"
	"millwright/tree"
)

// Rules for every call

// given is what calls are given: a world, with texts of which some are right and some aren't.
func given() (world, []string) {
	w := files("inc", "x = i j\nc $x: d $x\n\tdo\n", "deep", "<inc\n<|gen\n", "loop", "<loop\n", "wrong", "\nword\n", "m", "a b: c d\n\tmake\n<deep\n")
	w = w.tells("gen", "g h:VPcmp: i j\n", "ls", "l m\nn", "gen", "other").has(at(0, "x", "a", "b"), hidden(at(1, "y", "c")), at(2, "z", "d", "e"))
	return w, []string{
		"", "a: b\n", "$x $x: $x $y $z\n\tmake\n", "x = c d e\ny = $x\n$x: $y\n", "`{ls}: `{ls} `{ls}\n", "<inc deep inc\n$x: $x\n", "<|gen\n<|gen\n",
		"a b c d e: f g h i j\nk l m n o: p q r s t\n", strings.Repeat("$x: $x\n", api.MaxRules),
		"a: b\nword\n", "x = c\n<none\n", "x = c\n<loop\n", "<inc wrong\n", "a: `{none}\n", strings.Repeat("a: b\n", api.MaxRules+1), strings.Repeat("\n", api.MaxText+1),
	}
}

// outputs is a world's outputs, with others in the room behind them.
func (w world) outputs() []expand.Output {
	return append(slices.Clone(w.out), expand.Output{Command: "room", Text: "room: room"}, expand.Output{Command: "ls", Text: "room"})[:len(w.out)]
}

func TestTheTreeAndTheOutputsStayAsTheyWere(t *testing.T) {
	w, texts := given()
	for _, text := range texts {
		f, out := w.tree(t), w.outputs()
		was, all := f.Copy(), slices.Clone(out[:len(out)+2])
		first, firstErr := load.Text("m", text, f, w.env(t), out)
		second, secondErr := load.Text("m", text, f, w.env(t), out)
		if !tree.Same(f, was) || !slices.Equal(out[:len(out)+2], all) {
			t.Errorf("Text of %q changed the tree or the outputs", text)
		}
		if shownRules(first) != shownRules(second) || fmt.Sprint(firstErr) != fmt.Sprint(secondErr) {
			t.Errorf("Text of %q is %s, and then %s", text, shownRules(first), shownRules(second))
		}
		for _, name := range f.Names() {
			_, _ = load.Load(f, name, w.env(t), out)
		}
		if !tree.Same(f, was) || !slices.Equal(out[:len(out)+2], all) {
			t.Errorf("Load changed the tree or the outputs")
		}
	}
	// What is in the room behind isn't read.
	_, err := load.Text("m", "<|room\n", nil, env.New(), w.outputs())
	if !errors.Is(err, api.ErrNone) {
		t.Errorf("an output in the room behind is found: %v", err)
	}
}

// Variables of mkfiles are all that is changed in the Env.
func TestJustVariablesThatAreAssignedAreSet(t *testing.T) {
	w, _ := given()
	w.leaves(t, "$x: $y\n<|gen\n<$none\n", w.vars...)
	w.leaves(t, "new =U= n\n", append([]env.Var{hidden(variable("new", "n"))}, w.vars...)...)
	w.leaves(t, "x = n\nz = n\n", variable("x", "n"), w.vars[1], w.vars[2])
	// The Env is the one that is given, and a Copy of it is apart.
	e := w.env(t)
	c := e.Copy()
	if _, err := load.Text("m", "x = n\n", nil, e, nil); err != nil || e.Get("x")[0] != "n" || c.Get("x")[0] != "a" {
		t.Errorf("behind an Assign x is %q, and %q in a Copy (%v)", e.Get("x"), c.Get("x"), err)
	}
}

// over writes over a list, and over all the room behind it.
func over(list []string) {
	for i := range list[:cap(list)] {
		list[:cap(list)][i] = "written over"
	}
}

func TestAnswersAreTheCallers(t *testing.T) {
	w, texts := given()
	for _, text := range texts {
		f, e, out := w.tree(t), w.env(t), w.outputs()
		calls := map[string]func() []load.Rule{
			"Text": func() []load.Rule { rules, _ := load.Text("m", text, f, e, out); return rules },
			"Load": func() []load.Rule { rules, _ := load.Load(f, "m", e, out); return rules },
		}
		for what, call := range calls {
			call()
			first, second := call(), call()
			want, vars := shownRules(second), shownVars(e.List())
			for i := range first {
				over(first[i].Targets)
				over(first[i].Prereqs)
			}
			for i := range first[:cap(first)] {
				first[:cap(first)][i] = rule("over", 99, "written", "over")
			}
			if third := call(); shownRules(second) != want || shownRules(third) != want {
				t.Errorf("answers of %s of %q share their room: %s, %s", what, text, shownRules(second), shownRules(third))
			}
			if shownVars(e.List()) != vars {
				t.Errorf("writing over what %s of %q answered makes the variables %s", what, text, shownVars(e.List()))
			}
		}
	}
}

// No list of an answer shares its room with another one of it.
func TestListsOfAnAnswerShareNoRoom(t *testing.T) {
	w, texts := given()
	for _, text := range texts {
		want := w.text(t, text).rules
		for i := range want {
			for part := range 2 {
				got := w.text(t, text).rules
				list := [2]*[]string{&got[i].Targets, &got[i].Prereqs}[part]
				over(*list)
				_ = append(*list, "more")
				*list = [2][]string{want[i].Targets, want[i].Prereqs}[part]
				if shownRules(got) != shownRules(want) {
					t.Errorf("writing over list %d of rule %d of %q makes\n%s", part, i, text, shownRules(got))
				}
			}
		}
	}
}

// Changing what was given changes no answer.
func TestAnswersAreApartFromWhatWasGiven(t *testing.T) {
	w, texts := given()
	for _, text := range texts {
		f, e, out := w.tree(t), w.env(t), w.outputs()
		got, _ := load.Text("m", text, f, e, out)
		want := shownRules(got)
		for _, name := range f.Names() {
			if err := f.Put(name, "written: over\n", 99); err != nil {
				t.Fatal(err)
			}
		}
		for _, v := range e.List() {
			if err := e.Set(env.Var{Name: v.Name, Words: []string{"written", "over"}, Level: 2}); err != nil {
				t.Fatal(err)
			}
		}
		clear(out[:cap(out)])
		if shownRules(got) != want {
			t.Errorf("behind its being told Text of %q is %s, not %s", text, shownRules(got), want)
		}
	}
}

// Each fault is the caller's.
func TestFaultsAreTheCallers(t *testing.T) {
	w, texts := given()
	for _, text := range texts {
		want := w.text(t, text)
		_, err := load.Text("m", text, w.tree(t), w.env(t), w.out)
		var f *load.Fault
		if !errors.As(err, &f) {
			continue
		}
		*f = load.Fault{File: "over", Line: 77, Err: api.ErrName}
		holds(t, fmt.Sprintf("Text of %q", text), w.text(t, text), want)
	}
}

// Nothing is kept from one call to the next: each is by what it is given.
func TestCallsAreByWhatTheyAreGiven(t *testing.T) {
	f, e := tree.New(), env.New()
	out := []expand.Output{{Command: "gen", Text: "a: b\n"}}
	text := "<inc\n<|gen\n$x: $y\n"
	for i, content := range []string{"x = a\n", "", "c: d\n", "x = e\n", "y = $x\n"} {
		if err := f.Put("inc", content, i+1); err != nil {
			t.Fatal(err)
		}
		out[0].Text = fmt.Sprintf("g%d: $x\n", i)
		w := world{files: map[string]string{"inc": content}, vars: e.List(), out: slices.Clone(out)}
		want := model(t, w, "m", text)
		rules, err := load.Text("m", text, f, e, out)
		holds(t, fmt.Sprintf("Text with %q", content), answerOf(e, rules, err), want)
		e.Unset("x")
		if i%2 == 0 {
			e.Unset("y")
		}
	}
	// Rules and mkfiles are counted anew each time, also behind an error.
	many, rules := lots("m", api.MaxRules)
	for range 3 {
		world{}.gives(t, many, rules...)
		world{}.fails(t, many+many, "m", api.MaxRules+1, api.ErrFull)
		files("e", "").gives(t, strings.Repeat("<e\n", api.MaxLoads-1))
	}
}

func TestSameAnswersEachTime(t *testing.T) {
	c := chance(9)
	for range 3000 {
		w, text := c.world(), c.mkfile(9)
		one := w.text(t, text)
		_ = c.world().text(t, c.mkfile(9))
		holds(t, fmt.Sprintf("Text of %q again", text), w.text(t, text), one)
	}
}

// Texts are handed in as they are: bytes that were made a text don't reach what is answered.
func TestAnswersKeepWhatTheyTell(t *testing.T) {
	name, text, told := []byte("m"), []byte("a:VPcmp: b 'c' $d\n\tmake\n<|gen\n"), []byte("g: h\n")
	out := []expand.Output{{Command: "gen", Text: string(told)}}
	rules, err := load.Text(string(name), string(text), nil, env.New(), out)
	want := shownRules(rules)
	clear(name)
	clear(text)
	clear(told)
	if err != nil || len(rules) != 2 || shownRules(rules) != want {
		t.Errorf("behind cleared bytes: %s, not %s (%v)", shownRules(rules), want, err)
	}
}
