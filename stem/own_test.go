package stem_test

import (
	"slices"
	"testing"

	"millwright/stem"
)

// Rules for every call

// lists is lists of patterns of many counts.
func lists() [][]string {
	return [][]string{nil, {"a"}, {"%"}, {"&"}, {"%", "b"}, {"a", "b", "c"}, {"%.c", "&.h", "b.h", "", "%%"}, slices.Repeat([]string{"%", "b"}, 50)}
}

// roomy is a list with room behind it.
func roomy(list []string) []string {
	return append(slices.Clone(list), "room", "%", "&behind")[:len(list)]
}

// over writes over a list, and over all the room behind it.
func over(list []string) {
	list = list[:cap(list)]
	for i := range list {
		list[i] = "written over"
	}
}

func TestNoCallChangesWhatItIsGiven(t *testing.T) {
	for _, list := range lists() {
		given := roomy(list)
		was := slices.Clone(given[:cap(given)])
		for _, s := range []string{"", "x", "%", "d/x.y"} {
			_ = stem.FillAll(given, s)
			if !sameList(given, list) || !sameList(given[:cap(given)], was) {
				t.Errorf("FillAll changed %s, or the room behind it: %s", told(list...), told(given[:cap(given)]...))
			}
		}
	}
}

func TestAnswersAreTheCallers(t *testing.T) {
	for _, list := range lists() {
		for _, s := range []string{"", "x", "%"} {
			given, want := roomy(list), allFilled(list, s)
			was := slices.Clone(given[:cap(given)])
			first, second := stem.FillAll(given, s), stem.FillAll(given, s)
			over(first)
			_ = append(first, "more", "and", "more")
			if third := stem.FillAll(given, s); !sameList(second, want) || !sameList(third, want) {
				t.Errorf("answers of %s share their room: %s, %s", told(list...), told(second...), told(third...))
			}
			if !sameList(given[:cap(given)], was) {
				t.Errorf("an answer of %s shares its room: %s", told(list...), told(given[:cap(given)]...))
			}
			over(given)
			if !sameList(second, want) {
				t.Errorf("an answer of %s is the list's: %s", told(list...), told(second...))
			}
		}
	}
}

// Texts are handed in as they are: bytes that were made a text don't reach what is answered.
func TestTextsAreKept(t *testing.T) {
	pattern, s := []byte("d/%.o"), []byte("d/x.y.o")
	got, is := stem.Match(string(pattern), string(s))
	fill := stem.Fill(string(pattern), string(s))
	all := stem.FillAll([]string{string(pattern), "a"}, string(s))
	clear(pattern)
	clear(s)
	if got != "x.y" || !is || fill != "d/d/x.y.o.o" || !sameList(all, []string{"d/d/x.y.o.o", "a"}) {
		t.Errorf("behind cleared bytes: %s, %v, %s, %s", told(got), is, told(fill), told(all...))
	}
}

func TestSameAnswersEachTime(t *testing.T) {
	c := chance(7)
	for range 3000 {
		pattern, s := c.text(10), c.text(20)
		got, is := stem.Match(pattern, s)
		at, fill, narrow := stem.Wild(pattern), stem.Fill(pattern, s), stem.Narrow(s)
		_, _ = stem.Match(s, pattern)
		_ = stem.FillAll([]string{s, pattern}, pattern)
		again, isAgain := stem.Match(pattern, s)
		if again != got || isAgain != is || stem.Wild(pattern) != at || stem.Fill(pattern, s) != fill || stem.Narrow(s) != narrow {
			t.Errorf("calls with %s aren't the same each time", told(pattern, s))
		}
	}
}

// FillAll is Fill of each.
func TestCallsAgree(t *testing.T) {
	c := chance(8)
	for range 3000 {
		list, s := []string{c.text(10), c.text(10), c.text(10)}, c.text(10)
		all := stem.FillAll(list, s)
		if len(all) != len(list) {
			t.Fatalf("FillAll of %s is %s", told(list...), told(all...))
		}
		for i, pattern := range list {
			if all[i] != stem.Fill(pattern, s) {
				t.Errorf("Fill of %s isn't %s", told(pattern, s), told(all[i]))
			}
			if stem.Wild(pattern) < 0 && all[i] != pattern {
				t.Errorf("%s is %s without a sign", told(pattern), told(all[i]))
			}
		}
	}
}
