package subst_test

import (
	"slices"
	"testing"

	"millwright/api"
	"millwright/subst"
)

// P16.2, of Chosen and Others

// counts is how often each word is in a list.
func counts(list []string) map[string]int {
	out := make(map[string]int)
	for _, w := range list {
		out[w]++
	}
	return out
}

// isParted wants that each word of a list is in exactly one of its parts, as often and in the order as in the list.
func isParted(t *testing.T, list []string, pattern string) {
	t.Helper()
	chosen, others := subst.Chosen(list, pattern), subst.Others(list, pattern)
	in, out := counts(chosen), counts(others)
	for w, n := range counts(list) {
		if in[w] > 0 && out[w] > 0 || in[w]+out[w] != n {
			t.Errorf("%s is %d times in %s, %d times chosen and %d times another by %s", told(w), n, told(list...), in[w], out[w], told(pattern))
		}
	}
	if len(chosen)+len(others) != len(list) {
		t.Errorf("%s by %s: %s and %s", told(list...), told(pattern), told(chosen...), told(others...))
	}
	// Laid together again by the words' parts alone, they are the list in its order.
	for i, w := range list {
		part := &chosen
		if in[w] == 0 {
			part = &others
		}
		if len(*part) == 0 || (*part)[0] != w {
			t.Fatalf("word %d of %s isn't in its order by %s", i, told(list...), told(pattern))
		}
		*part = (*part)[1:]
	}
}

// isSettled wants that parts are parted no further.
func isSettled(t *testing.T, list []string, pattern string) {
	t.Helper()
	chosen, others := subst.Chosen(list, pattern), subst.Others(list, pattern)
	if !sameList(subst.Chosen(chosen, pattern), chosen) || len(subst.Others(chosen, pattern)) > 0 {
		t.Errorf("the chosen ones %s by %s are parted once more", told(chosen...), told(pattern))
	}
	if !sameList(subst.Others(others, pattern), others) || len(subst.Chosen(others, pattern)) > 0 {
		t.Errorf("the others %s by %s are parted once more", told(others...), told(pattern))
	}
}

func TestAListIsItsParts(t *testing.T) {
	lists := [][]string{nil, {""}, {"a"}, {"a", "a"}, words(), slices.Concat(words(), words()), slices.Repeat([]string{"x.c", "y.h"}, 30), slices.Repeat([]string{"x.c"}, 30)}
	for _, w := range words() {
		lists = append(lists, []string{w, "x.c", w, "a", w})
	}
	for _, pattern := range patterns() {
		for _, list := range lists {
			isParted(t, list, pattern)
			isSettled(t, list, pattern)
		}
	}
}

func TestAListIsItsPartsForAllShortOnes(t *testing.T) {
	all := texts("a%&.", 3)
	for _, pattern := range texts("a%&.", 4) {
		isParted(t, all, pattern)
		isSettled(t, all, pattern)
	}
}

func TestAListIsItsPartsWithoutAPlan(t *testing.T) {
	c := chance(3)
	mixed := 0
	for range 20000 {
		pattern := c.text(8)
		list := c.list(pattern, 12)
		isParted(t, list, pattern)
		isSettled(t, list, pattern)
		if n := len(subst.Chosen(list, pattern)); n > 0 && n < len(list) {
			mixed++
		}
	}
	if mixed < 5000 {
		t.Errorf("just %d lists have words of both kinds", mixed)
	}
}

// P16.2, of Same

// keepsAll wants that nothing changes, where Same holds.
func keepsAll(t *testing.T, list []string, from, to string) bool {
	t.Helper()
	if !subst.Same(from, to) {
		return false
	}
	for _, w := range list {
		isPut(t, w, from, to, w)
	}
	if got, err := subst.List(list, from, to); err != nil || !sameList(got, list) {
		t.Errorf("List(%s) with %s is %s, %v, though they are the same", told(list...), told(from, to), told(got...), err)
	}
	return true
}

func TestNothingChangesWhereSameHolds(t *testing.T) {
	long := []string{sized(api.MaxWord), sized(api.MaxWord-2) + ".c", "d/" + sized(api.MaxWord-2)}
	kept := 0
	for _, from := range patterns() {
		for _, to := range patterns() {
			if keepsAll(t, append(words(), long...), from, to) {
				kept++
			}
		}
	}
	if kept < 15 {
		t.Errorf("Same holds for just %d pairs", kept)
	}
}

func TestNothingChangesWhereSameHoldsForAllShortOnes(t *testing.T) {
	all, kept := texts("a%&.", 3), 0
	for _, from := range all {
		for _, to := range all {
			if keepsAll(t, all, from, to) {
				kept++
			}
		}
	}
	if kept < 20 {
		t.Errorf("Same holds for just %d pairs", kept)
	}
}

func TestNothingChangesWhereSameHoldsWithoutAPlan(t *testing.T) {
	c := chance(4)
	kept := 0
	for range 20000 {
		pattern := c.text(10)
		if keepsAll(t, c.list(pattern, 8), pattern, pattern) {
			kept++
		}
	}
	if kept < 5000 {
		t.Errorf("Same holds for just %d patterns", kept)
	}
}

// Patterns that are the same, but with more signs: a word with one sign for another one changes.
func TestSomethingChangesWithSeveralSigns(t *testing.T) {
	for _, c := range []struct{ w, pattern, want string }{
		{"x%", "%%", "xx"}, {"x&", "%&", "xx"}, {"x%", "&%", "xx"}, {"x&", "&&", "xx"}, {"a1b%c", "a%b%c", "a1b1c"}, {"a1b&c", "a&b&c", "a1b1c"},
	} {
		isPut(t, c.w, c.pattern, c.pattern, c.want)
		isSame(t, c.pattern, c.pattern, false)
	}
}
