package subst_test

import (
	"errors"
	"slices"
	"strconv"
	"strings"
	"testing"

	"millwright/api"
	"millwright/subst"
)

// P16.1, of List

// arePut wants what words are once they are put.
func arePut(t *testing.T, list []string, from, to string, want ...string) {
	t.Helper()
	was := slices.Clone(list)
	if got, err := subst.List(list, from, to); err != nil || !sameList(got, want) {
		t.Errorf("List(%s) with %s is %s, %v, not %s", told(was...), told(from, to), told(got...), err, told(want...))
	}
	if !sameList(list, was) {
		t.Errorf("List changed its list %s to %s", told(was...), told(list...))
	}
}

// areLong wants that a word is too long once it is put, and that nothing is told beside the error.
func areLong(t *testing.T, list []string, from, to string) {
	t.Helper()
	was := slices.Clone(list)
	if got, err := subst.List(list, from, to); !errors.Is(err, api.ErrLong) || len(got) > 0 {
		t.Errorf("List(%s) with %s is %s, %v, not %v", told(was...), told(from, to), told(got...), err, api.ErrLong)
	}
	if !sameList(list, was) {
		t.Errorf("List changed its list %s to %s", told(was...), told(list...))
	}
}

// areAsked wants of a list what the document's words ask.
func areAsked(t *testing.T, list []string, from, to string) {
	t.Helper()
	if want, err := puttedAll(list, from, to); err == nil {
		arePut(t, list, from, to, want...)
	} else {
		areLong(t, list, from, to)
	}
}

func TestList(t *testing.T) {
	arePut(t, nil, "%.c", "%.o")
	arePut(t, []string{}, "%.c", "%.o")
	arePut(t, nil, "", "")
	arePut(t, nil, sized(5000), sized(5000))
	arePut(t, []string{"x.c"}, "%.c", "%.o", "x.o")
	arePut(t, []string{"x.h"}, "%.c", "%.o", "x.h")
	arePut(t, []string{""}, "", "new", "new")
	arePut(t, []string{""}, "%", "", "")
	arePut(t, []string{""}, "x", "new", "")
	arePut(t, []string{"x.c", "y.h"}, "%.c", "%.o", "x.o", "y.h")
	arePut(t, []string{"y.h", "x.c"}, "%.c", "%.o", "y.h", "x.o")
	arePut(t, []string{"z.c", "y.h", "b.c", "a.c", "a.h"}, "%.c", "%.o", "z.o", "y.h", "b.o", "a.o", "a.h")
	arePut(t, []string{"x.c", "d/x.c", "x.y.c"}, "&.c", "&.o", "x.o", "d/x.c", "x.y.c")
	arePut(t, []string{"a", "b", "a"}, "a", "new", "new", "b", "new")
	arePut(t, []string{"a", "b", "a"}, "a", "b", "b", "b", "b")
	arePut(t, []string{"a", "b"}, "%", "same", "same", "same")
	arePut(t, []string{"x.c", "x.c", "x.h", "x.h"}, "%.c", "%.o", "x.o", "x.o", "x.h", "x.h")
	arePut(t, []string{"a", "", "b", ""}, "", "e", "a", "e", "b", "e")
	arePut(t, []string{"a", "b"}, "%", "", "", "")
	arePut(t, []string{"a", "b"}, "%", "%&", "aa", "bb")
	arePut(t, []string{"%", "&"}, "%", "%%", "%%", "&&")
	arePut(t, []string{"x%", "xx", "x&"}, "%%", "%%", "xx", "xx", "x&")
	arePut(t, []string{"a b", "'", "$x", "\n"}, "%", "<%>", "<a b>", "<'>", "<$x>", "<\n>")
	// What is put is not put again.
	arePut(t, []string{"a", "b"}, "a", "b", "b", "b")
	arePut(t, []string{"x", "dx"}, "%", "d%", "dx", "ddx")
	arePut(t, []string{"x.c.c"}, "%.c", "%", "x.c")
}

func TestListOfManyWords(t *testing.T) {
	for n := range 100 {
		var list, want []string
		for i := range n {
			list = append(list, "x"+strconv.Itoa(i)+".c", "x"+strconv.Itoa(i)+".h")
			want = append(want, "d/x"+strconv.Itoa(i)+".o", "x"+strconv.Itoa(i)+".h")
		}
		arePut(t, list, "%.c", "d/%.o", want...)
	}
	many := slices.Repeat([]string{"x.c", "y.h", "x.c"}, 1<<16)
	arePut(t, many, "%.c", "%.o", slices.Repeat([]string{"x.o", "y.h", "x.o"}, 1<<16)...)
}

// among is the lists that have a word ahead of, behind and between others.
func among(w string) [][]string {
	return [][]string{{w}, {w, "b"}, {"b", w}, {"a", w, "b"}, {"a", "b", "c", w}, {w, "a", "b", "c"}, {w, w}, {"a", w, "b", w}, {"", w, ""}}
}

// isBounded wants that a word may be once it is put, or not, wherever it stands.
func isBounded(t *testing.T, w, from, to string, want string) {
	t.Helper()
	for _, list := range among(w) {
		if len(want) > api.MaxWord {
			areLong(t, list, from, to)
			continue
		}
		out := slices.Clone(list)
		for i := range out {
			if out[i] == w {
				out[i] = want
			}
		}
		arePut(t, list, from, to, out...)
	}
}

// sizes is sizes of words on each side of the bound.
func sizes() []int {
	return []int{1, 60, api.MaxWord - 1, api.MaxWord, api.MaxWord + 1, api.MaxWord + 2, 2 * api.MaxWord, 5000}
}

func TestListOfWordsThatBecomeLong(t *testing.T) {
	for _, n := range sizes() {
		isBounded(t, "x", "x", sized(n), sized(n))
		isBounded(t, "x", "x", "%"+sized(n)+"&", sized(n))
		isBounded(t, "x.c", "%.c", sized(n), sized(n))
		isBounded(t, "x.c", "%.c", "%"+sized(n-1), "x"+sized(n-1))
		isBounded(t, "x.c", "%.c", sized(n-1)+"%", sized(n-1)+"x")
		isBounded(t, "x.c", "&.c", sized(n-1)+"&", sized(n-1)+"x")
		isBounded(t, "x.c", "%.c", strings.Repeat("%", n), strings.Repeat("x", n))
		isBounded(t, "x.c", "%.c", strings.Repeat("&", n), strings.Repeat("x", n))
		isBounded(t, ".c", "%.c", strings.Repeat("&", n), "")
		isBounded(t, ".c", "%.c", strings.Repeat("&", 5000)+sized(n), sized(n))
		if n%2 == 0 {
			isBounded(t, "x.c", "%.c", strings.Repeat("%&", n/2), strings.Repeat("xx", n/2))
			isBounded(t, sized(n/2)+".c", "%.c", "%&", sized(n))
		}
		if n > 1 {
			isBounded(t, "xy.c", "%.c", sized(n-2)+"%", sized(n-2)+"xy")
		}
	}
}

// A word that stays is bounded too.
func TestListOfLongWordsThatStay(t *testing.T) {
	for _, n := range sizes() {
		for _, from := range []string{"other", "%.c", "&.c", "d/%", "%%", "ww%ww.", sized(n) + "%q", sized(n + 1), "%" + sized(n+1)} {
			for _, to := range []string{"", "b", "%", "%%"} {
				isBounded(t, sized(n), from, to, sized(n))
			}
		}
		isBounded(t, "."+sized(n-1), "&w", "b", "."+sized(n-1))
		// It fits, and is what it was.
		for _, sign := range []string{"%", "&"} {
			for _, list := range [][]string{{sized(n)}, {sized(n), sized(n)}} {
				areAsked(t, list, sign, sign)
				areAsked(t, list, "w"+sign, "w"+sign)
				areAsked(t, list, sized(n), sized(n))
			}
		}
	}
}

// Words of more than MaxWord bytes may become shorter.
func TestListOfLongWordsThatBecomeShort(t *testing.T) {
	long := sized(api.MaxWord)
	for _, sign := range []string{"%", "&"} {
		arePut(t, []string{long + ".c"}, sign+".c", "%", long)
		arePut(t, []string{long + "/", "a", long + "/"}, sign+"/", "%", long, "a", long)
		arePut(t, []string{"a", "d/" + long}, "d/"+sign, "&", "a", long)
		arePut(t, []string{long + long}, long+sign, "&", long)
		arePut(t, []string{sized(5000), "w"}, sign, "new", "new", "new")
		arePut(t, []string{sized(5000), "w"}, sign, "", "", "")
		arePut(t, []string{sized(5000)}, sized(4999)+sign, "<%>", "<w>")
		areLong(t, []string{long + ".c"}, sign+".c", "%.")
		areLong(t, []string{long + "w.c"}, sign+".c", "%")
		areLong(t, []string{long + ".c", long + ".h"}, sign+".c", "%")
		areLong(t, []string{long + ".h", long + ".c"}, sign+".c", "%")
	}
	arePut(t, []string{"a", sized(5000)}, sized(5000), "b", "a", "b")
	arePut(t, []string{sized(5000)}, sized(5000), "%", "")
	arePut(t, []string{long, long + "w"}, long+"w", long, long, long)
}

// Bytes are counted, not runes.
func TestListCountsBytes(t *testing.T) {
	half := strings.Repeat("\u00e9", api.MaxWord/2)
	arePut(t, []string{half}, "q", "q", half)
	arePut(t, []string{half}, "%", "&", half)
	areLong(t, []string{half + "e"}, "q", "q")
	areLong(t, []string{half}, "%", "%e")
	areLong(t, []string{strings.Repeat("\u00e9", api.MaxWord)}, "q", "q")
}

// There may be more than MaxWords words.
func TestListIsNotBounded(t *testing.T) {
	for _, n := range []int{api.MaxWords - 1, api.MaxWords, api.MaxWords + 1, 10 * api.MaxWords} {
		arePut(t, slices.Repeat([]string{"x.c"}, n), "%.c", "%.o", slices.Repeat([]string{"x.o"}, n)...)
	}
}

func TestListOfManyKinds(t *testing.T) {
	backwards := slices.Clone(words())
	slices.Reverse(backwards)
	for _, from := range patterns() {
		for _, to := range append(patterns(), sized(api.MaxWord), sized(api.MaxWord)+"%", sized(api.MaxWord+1)) {
			areAsked(t, words(), from, to)
			areAsked(t, backwards, from, to)
		}
	}
}

func TestListOfAllShortLists(t *testing.T) {
	lists := [][]string{nil}
	for from := 0; from < len(lists) && len(lists[from]) < 4; from++ {
		for _, w := range []string{"", "a", "a.c", "b.c", "%"} {
			lists = append(lists, append(slices.Clone(lists[from]), w))
		}
	}
	for _, list := range lists {
		for _, from := range []string{"", "a", "%", "&", "%.c", "&c"} {
			for _, to := range []string{"", "b", "%", "&.o", "%&", sized(api.MaxWord) + "%"} {
				areAsked(t, list, from, to)
			}
		}
	}
}

func TestListWithoutAPlan(t *testing.T) {
	c := chance(2)
	long := 0
	for range 20000 {
		from, to := c.text(8), c.text(40)
		list := c.list(from, 8)
		areAsked(t, list, from, to)
		if _, err := puttedAll(list, from, to); err != nil {
			long++
		}
	}
	if long < 200 || long > 10000 {
		t.Errorf("%d of the lists are too long", long)
	}
}

// A word that would be far too great is told, not made.
func TestListOfGreatWords(t *testing.T) {
	const great = 1 << 20
	areLong(t, []string{sized(great)}, "%", strings.Repeat("%", great))
	areLong(t, []string{"a", sized(great), "b"}, "&", strings.Repeat("%&", great))
	areLong(t, slices.Repeat([]string{sized(great)}, 100), "q", "b")
	arePut(t, slices.Repeat([]string{sized(great)}, 100), "%", "b", slices.Repeat([]string{"b"}, 100)...)
}

// Neither a great from nor a great to is gone through once a word.
func TestListOfManyWordsWithGreatPatterns(t *testing.T) {
	const great = 1 << 20
	const many = 1 << 17
	few, long := slices.Repeat([]string{"", "w", "ww"}, many), sized(great)
	arePut(t, few, long, "b", few...)
	arePut(t, few, long+"%", "b", few...)
	arePut(t, few, "&"+long, "b", few...)
	empty, none := make([]string, many), make([]string, many)
	arePut(t, empty, "%", strings.Repeat("%&", great), none...)
	arePut(t, empty, "", strings.Repeat("&", great), none...)
}
