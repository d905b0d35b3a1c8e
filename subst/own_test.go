package subst_test

import (
	"slices"
	"testing"

	"millwright/subst"
)

// Rules for every call

// calls is the calls that answer lists, each by its name.
func calls() map[string]func(list []string, from string) []string {
	put := func(to string) func([]string, string) []string {
		return func(list []string, from string) []string {
			out, _ := subst.List(list, from, to)
			return out
		}
	}
	return map[string]func([]string, string) []string{
		"List":           put("d/%.o"),
		"List of itself": put("%"),
		"List to long":   put(sized(500)),
		"Chosen":         subst.Chosen,
		"Others":         subst.Others,
	}
}

// froms is patterns that all, some and none of the words of lists fit.
func froms() []string { return []string{"%", "&", "%.c", "&.c", "x.c", "q"} }

// lists is lists of words of many counts.
func lists() [][]string {
	return [][]string{nil, {"a"}, {"x.c"}, {"x.c", "y.c"}, {"x.c", "y.h"}, {"y.h", "x.c"}, {"a", "b", "c"}, {"x.c", "x.c", "x.h", "", "d/x.c"}, slices.Repeat([]string{"x.c", "b"}, 50)}
}

// roomy is a list with room behind it.
func roomy(list []string) []string {
	return append(slices.Clone(list), "room", "x.c", "behind")[:len(list)]
}

// over writes over a list, and over all the room behind it.
func over(list []string) {
	list = list[:cap(list)]
	for i := range list {
		list[i] = "written over"
	}
}

func TestNoCallChangesWhatItIsGiven(t *testing.T) {
	for what, call := range calls() {
		for _, list := range lists() {
			given := roomy(list)
			was := slices.Clone(given[:cap(given)])
			for _, from := range froms() {
				_ = call(given, from)
				if !sameList(given, list) || !sameList(given[:cap(given)], was) {
					t.Errorf("%s by %s changed %s, or the room behind it: %s", what, told(from), told(list...), told(given[:cap(given)]...))
				}
			}
		}
	}
}

func TestAnswersAreTheCallers(t *testing.T) {
	for what, call := range calls() {
		for _, list := range lists() {
			for _, from := range froms() {
				given := roomy(list)
				was := slices.Clone(given[:cap(given)])
				want := slices.Clone(call(slices.Clone(list), from))
				first, second := call(given, from), call(given, from)
				over(first)
				_ = append(first, "more", "and", "more")
				if third := call(given, from); !sameList(second, want) || !sameList(third, want) {
					t.Errorf("answers of %s of %s share their room: %s, %s", what, told(list...), told(second...), told(third...))
				}
				if !sameList(given[:cap(given)], was) {
					t.Errorf("an answer of %s of %s shares its room: %s", what, told(list...), told(given[:cap(given)]...))
				}
				over(given)
				if !sameList(second, want) {
					t.Errorf("an answer of %s of %s is the list's: %s", what, told(list...), told(second...))
				}
			}
		}
	}
}

// The two parts of a list are apart from each other.
func TestPartsAreApart(t *testing.T) {
	for _, list := range lists() {
		for _, from := range froms() {
			chosen, others := parted(list, from)
			gotChosen, gotOthers := subst.Chosen(list, from), subst.Others(list, from)
			over(gotChosen)
			_ = append(gotChosen, "more", "and", "more")
			if !sameList(gotOthers, others) {
				t.Errorf("the others of %s by %s share the chosen ones' room", told(list...), told(from))
			}
			gotChosen = subst.Chosen(list, from)
			over(gotOthers)
			_ = append(gotOthers, "more", "and", "more")
			if !sameList(gotChosen, chosen) {
				t.Errorf("the chosen ones of %s by %s share the others' room", told(list...), told(from))
			}
		}
	}
}

// Texts are handed in as they are: bytes that were made a text don't reach what is answered.
func TestTextsAreKept(t *testing.T) {
	w, from, to := []byte("d/x.c"), []byte("d/%.c"), []byte("e/%.o")
	got := subst.Word(string(w), string(from), string(to))
	all, err := subst.List([]string{string(w), "a"}, string(from), string(to))
	chosen, others := subst.Chosen([]string{string(w)}, string(from)), subst.Others([]string{string(w)}, string(to))
	clear(w)
	clear(from)
	clear(to)
	if got != "e/x.o" || err != nil || !sameList(all, []string{"e/x.o", "a"}) || !sameList(chosen, []string{"d/x.c"}) || !sameList(others, []string{"d/x.c"}) {
		t.Errorf("behind cleared bytes: %s, %s, %v, %s, %s", told(got), told(all...), err, told(chosen...), told(others...))
	}
}

func TestSameAnswersEachTime(t *testing.T) {
	c := chance(7)
	for range 3000 {
		from, to := c.text(8), c.text(30)
		list := c.list(from, 6)
		all, err := subst.List(list, from, to)
		chosen, others, same := subst.Chosen(list, from), subst.Others(list, from), subst.Same(from, to)
		_, _ = subst.List(list, to, from)
		_, _ = subst.Chosen(list, to), subst.Others(list, to)
		again, errAgain := subst.List(list, from, to)
		if !sameList(again, all) || (errAgain == nil) != (err == nil) || !sameList(subst.Chosen(list, from), chosen) || !sameList(subst.Others(list, from), others) || subst.Same(from, to) != same {
			t.Errorf("calls of %s with %s aren't the same each time", told(list...), told(from, to))
		}
	}
}

// List is Word of each; what fits is put, what doesn't stays.
func TestCallsAgree(t *testing.T) {
	c := chance(8)
	for range 5000 {
		from, to := c.text(8), c.text(10)
		list := c.list(from, 6)
		all, err := subst.List(list, from, to)
		if err != nil {
			continue
		}
		if len(all) != len(list) {
			t.Fatalf("List of %s is %s", told(list...), told(all...))
		}
		for i, w := range list {
			if all[i] != subst.Word(w, from, to) {
				t.Errorf("Word of %s isn't %s", told(w, from, to), told(all[i]))
			}
		}
		others, _ := subst.List(subst.Others(list, from), from, to)
		if !sameList(others, subst.Others(list, from)) {
			t.Errorf("the others of %s are put by %s", told(list...), told(from, to))
		}
	}
}
