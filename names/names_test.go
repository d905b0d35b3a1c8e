package names_test

import (
	"slices"
	"strings"
	"testing"

	"millwright/api"
	"millwright/names"
)

// texts is all texts of up to most bytes out of an alphabet.
func texts(alphabet string, most int) []string {
	all := []string{""}
	for from := 0; most > 0; most-- {
		to := len(all)
		for _, s := range all[from:to] {
			for i := range len(alphabet) {
				all = append(all, s+alphabet[i:i+1])
			}
		}
		from = to
	}
	return all
}

func same(a, b []string) bool {
	return len(a) == len(b) && (len(a) == 0 || slices.Equal(a, b))
}

// P1.1

func TestRightOfEachByte(t *testing.T) {
	for c := range 256 {
		want := c >= 33 && c <= 126
		one := string([]byte{byte(c)})
		for _, s := range []string{one, one + "ab", "a" + one + "b", "ab" + one} {
			if names.Right(s) != want {
				t.Errorf("Right(%q) is %v", s, !want)
			}
		}
	}
}

func TestRightOfEachLength(t *testing.T) {
	for n := range 3 * api.MaxName {
		want := n >= 1 && n <= api.MaxName
		if names.Right(strings.Repeat("x", n)) != want {
			t.Errorf("Right of %d bytes is %v", n, !want)
		}
	}
	tooManyBytes := strings.Repeat("\u00e9", api.MaxName/2)
	if names.Right(tooManyBytes) {
		t.Errorf("Right(%q)", tooManyBytes)
	}
}

func TestRight(t *testing.T) {
	cases := []struct {
		s    string
		want bool
	}{
		{"", false},
		{"a/b.c", true},
		{"!", true},
		{"~", true},
		{"()", true},
		{"a b", false},
		{"a ", false},
		{" a", false},
		{" ", false},
		{"\x7f", false},
		{"a\n", false},
		{"a\x00", false},
		{"\xff", false},
	}
	for _, c := range cases {
		if got := names.Right(c.s); got != c.want {
			t.Errorf("Right(%q) is %v", c.s, got)
		}
	}
}

func TestMember(t *testing.T) {
	cases := []struct {
		s, lib, member string
		is             bool
	}{
		{"lib.a(x.o)", "lib.a", "x.o", true},
		{"a(b)", "a", "b", true},
		{"a/b(c/d)", "a/b", "c/d", true},
		{"!(~)", "!", "~", true},
		{"", "", "", false},
		{"a", "", "", false},
		{"(", "", "", false},
		{")", "", "", false},
		{"()", "", "", false},
		{")(", "", "", false},
		{"a()", "", "", false},
		{"(b)", "", "", false},
		{"a(b", "", "", false},
		{"ab)", "", "", false},
		{"a(b)c", "", "", false},
		{"a(b)c)", "", "", false},
		{"a(b))", "", "", false},
		{"a)(b)", "", "", false},
		{")a(b)", "", "", false},
		{"a((b)", "", "", false},
		{"a(b()", "", "", false},
		{"(a(b)", "", "", false},
		{"a(b)(c)", "", "", false},
		{"a((b))", "", "", false},
		{"a)b(", "", "", false},
		{"a b(c)", "", "", false},
		{"a(b c)", "", "", false},
		{"a(\x7f)", "", "", false},
		{"a(b) ", "", "", false},
		{"a(\xc3\xa9)", "", "", false},
	}
	for _, c := range cases {
		lib, member, is := names.Member(c.s)
		if lib != c.lib || member != c.member || is != c.is {
			t.Errorf("Member(%q) is %q, %q, %v", c.s, lib, member, is)
		}
	}
}

func TestMemberOfEachLength(t *testing.T) {
	for n := 4; n <= api.MaxName+1; n++ {
		for _, at := range []int{1, n / 2, n - 3} {
			at = min(max(at, 1), n-3)
			wantLib, wantMember := strings.Repeat("l", at), strings.Repeat("m", n-2-at)
			lib, member, is := names.Member(wantLib + "(" + wantMember + ")")
			if n > api.MaxName {
				wantLib, wantMember = "", ""
			}
			if is != (n <= api.MaxName) || lib != wantLib || member != wantMember {
				t.Errorf("Member of %d bytes, bracket at %d: %q, %q, %v", n, at, lib, member, is)
			}
		}
	}
}

// isMember says the chapter's words one by one.
func isMember(s string) bool {
	return names.Right(s) &&
		strings.HasSuffix(s, ")") &&
		strings.Count(s, "(") == 1 &&
		!strings.HasPrefix(s, "(") &&
		strings.Count(s, ")") == 1 &&
		!strings.Contains(s, "()")
}

func TestMemberWithBracketsInEveryPlace(t *testing.T) {
	for _, s := range texts("a() ", 7) {
		lib, member, is := names.Member(s)
		if is != isMember(s) {
			t.Errorf("Member(%q): %v", s, is)
		}
		if !is && (lib != "" || member != "") {
			t.Errorf("Member(%q) is none, but tells %q, %q", s, lib, member)
		}
		if is && (lib == "" || member == "" || strings.ContainsAny(lib+member, "()")) {
			t.Errorf("Member(%q) is %q, %q", s, lib, member)
		}
	}
}

func TestJoin(t *testing.T) {
	cases := [][3]string{
		{"lib.a", "x.o", "lib.a(x.o)"},
		{"", "", "()"},
		{"a", "", "a()"},
		{"", "b", "(b)"},
		{"a(b)", "c", "a(b)(c)"},
		{"a b", "\xff", "a b(\xff)"},
		{strings.Repeat("x", 99), "y", strings.Repeat("x", 99) + "(y)"},
	}
	for _, c := range cases {
		if got := names.Join(c[0], c[1]); got != c[2] {
			t.Errorf("Join(%q, %q) is %q", c[0], c[1], got)
		}
	}
}

func TestParts(t *testing.T) {
	cases := []struct{ s, dir, base, suffix string }{
		{"", "", "", ""},
		{"a", "", "a", ""},
		{"a.c", "", "a.c", ".c"},
		{"a/b.c", "a/", "b.c", ".c"},
		{"/", "/", "", ""},
		{"//", "//", "", ""},
		{"a/", "a/", "", ""},
		{"a.c/", "a.c/", "", ""},
		{"/a", "/", "a", ""},
		{"a/b/c.d", "a/b/", "c.d", ".d"},
		{"a.c/b", "a.c/", "b", ""},
		{"a//b.c", "a//", "b.c", ".c"},
		{".", "", ".", ""},
		{".c", "", ".c", ""},
		{"a/.c", "a/", ".c", ""},
		{"a.b/.c", "a.b/", ".c", ""},
		{"..", "", "..", "."},
		{"a/..", "a/", "..", "."},
		{".a.b", "", ".a.b", ".b"},
		{"a.", "", "a.", "."},
		{"a..", "", "a..", "."},
		{"a.b.c", "", "a.b.c", ".c"},
		{"a..c", "", "a..c", ".c"},
		{"x/a.b.c", "x/", "a.b.c", ".c"},
		{"lib.a(x.o)", "", "lib.a(x.o)", ".o)"},
		{"a b/c d.e f", "a b/", "c d.e f", ".e f"},
		{"\xff/\x00.\n", "\xff/", "\x00.\n", ".\n"},
	}
	for _, c := range cases {
		if got := names.Dir(c.s); got != c.dir {
			t.Errorf("Dir(%q) is %q", c.s, got)
		}
		if got := names.Base(c.s); got != c.base {
			t.Errorf("Base(%q) is %q", c.s, got)
		}
		if got := names.Suffix(c.s); got != c.suffix {
			t.Errorf("Suffix(%q) is %q", c.s, got)
		}
	}
}

func TestPartsOfLongTexts(t *testing.T) {
	long := strings.Repeat("d/", 1000) + strings.Repeat("b", 1000) + ".o"
	if names.Dir(long) != long[:2000] || names.Base(long) != long[2000:] || names.Suffix(long) != ".o" {
		t.Error("parts of a text that is longer than a name")
	}
}

// suffixFrom goes from the end of the base to its second byte.
func suffixFrom(base string) string {
	for i := len(base) - 1; i >= 1; i-- {
		if base[i] == '.' {
			return base[i:]
		}
	}
	return ""
}

func TestPartsOfAllShortTexts(t *testing.T) {
	for _, s := range texts("a./", 8) {
		dir, base := names.Dir(s), names.Base(s)
		if strings.Contains(base, "/") || dir != "" && !strings.HasSuffix(dir, "/") {
			t.Errorf("%q: directory %q, base %q", s, dir, base)
		}
		if got := names.Suffix(s); got != suffixFrom(base) {
			t.Errorf("Suffix(%q) is %q", s, got)
		}
	}
}

func TestSorted(t *testing.T) {
	cases := []struct{ list, want []string }{
		{nil, nil},
		{[]string{}, nil},
		{[]string{""}, []string{""}},
		{[]string{"", ""}, []string{""}},
		{[]string{"a"}, []string{"a"}},
		{[]string{"b", "a", "b", "a", "b"}, []string{"a", "b"}},
		{[]string{"c", "b", "a"}, []string{"a", "b", "c"}},
		{[]string{"a", "b", "c"}, []string{"a", "b", "c"}},
		{[]string{"ab", "b", "", "a", "aa"}, []string{"", "a", "aa", "ab", "b"}},
		{[]string{"a", "Z", "10", "9", "~", "_"}, []string{"10", "9", "Z", "_", "a", "~"}},
		{[]string{"\xff", "\u00e9", "\x7f", "z", "\x00"}, []string{"\x00", "z", "\x7f", "\u00e9", "\xff"}},
	}
	for _, c := range cases {
		if got := names.Sorted(c.list); !same(got, c.want) {
			t.Errorf("Sorted(%q) is %q", c.list, got)
		}
	}
}

func TestHas(t *testing.T) {
	list := []string{"a", "b/c", "a", ""}
	for _, s := range list {
		if !names.Has(list, s) {
			t.Errorf("Has(%q, %q) is false", list, s)
		}
	}
	for _, s := range []string{"A", "b", "b/", "b/c ", "c", "\x00"} {
		if names.Has(list, s) {
			t.Errorf("Has(%q, %q) is true", list, s)
		}
	}
	if names.Has(nil, "") || names.Has([]string{}, "a") || names.Has([]string{"a"}, "") {
		t.Error("a text that is in no list")
	}
}

func TestUnion(t *testing.T) {
	cases := []struct{ a, b, want []string }{
		{nil, nil, nil},
		{[]string{}, []string{}, nil},
		{[]string{"a"}, nil, []string{"a"}},
		{nil, []string{"a"}, []string{"a"}},
		{nil, []string{"b", "a", "b", "a"}, []string{"b", "a"}},
		{[]string{"b", "a", "b", "a"}, nil, []string{"b", "a"}},
		{[]string{"b", "a", "b"}, []string{"c", "a"}, []string{"b", "a", "c"}},
		{[]string{"a", "b"}, []string{"b", "a"}, []string{"a", "b"}},
		{[]string{"z", "y"}, []string{"x", "z", "w", "x"}, []string{"z", "y", "x", "w"}},
		{[]string{""}, []string{"", "\xff", ""}, []string{"", "\xff"}},
		{[]string{"a"}, []string{"A", "a "}, []string{"a", "A", "a "}},
	}
	for _, c := range cases {
		if got := names.Union(c.a, c.b); !same(got, c.want) {
			t.Errorf("Union(%q, %q) is %q", c.a, c.b, got)
		}
	}
}

func TestWithout(t *testing.T) {
	cases := []struct{ a, b, want []string }{
		{nil, nil, nil},
		{[]string{}, []string{"a"}, nil},
		{nil, []string{"a"}, nil},
		{[]string{"b", "a", "b"}, nil, []string{"b", "a", "b"}},
		{[]string{"b", "a", "b"}, []string{}, []string{"b", "a", "b"}},
		{[]string{"b", "a", "b"}, []string{"a"}, []string{"b", "b"}},
		{[]string{"b", "a", "b"}, []string{"b"}, []string{"a"}},
		{[]string{"b", "a", "b"}, []string{"b", "b", "a"}, nil},
		{[]string{"c", "a", "c", "b", "c"}, []string{"x", "a"}, []string{"c", "c", "b", "c"}},
		{[]string{"", "a", ""}, []string{""}, []string{"a"}},
		{[]string{"a", "A", "\xff"}, []string{"a", "\xfe"}, []string{"A", "\xff"}},
	}
	for _, c := range cases {
		if got := names.Without(c.a, c.b); !same(got, c.want) {
			t.Errorf("Without(%q, %q) is %q", c.a, c.b, got)
		}
	}
}

func TestLongLists(t *testing.T) {
	many := texts("abcdefgh", 5)
	twice := slices.Concat(many, many)
	if !same(names.Union(twice, twice), many) {
		t.Error("Union of long lists")
	}
	if len(names.Without(twice, many)) != 0 || !same(names.Without(twice, nil), twice) {
		t.Error("Without of long lists")
	}
	rising := names.Sorted(twice)
	if len(rising) != len(many) || !slices.IsSorted(rising) {
		t.Error("Sorted of a long list")
	}
}

// P1.2

func TestDirAndBaseAreTheText(t *testing.T) {
	all := texts("a./( \xff", 5)
	all = append(all, strings.Repeat("a", api.MaxName+1), strings.Repeat("a/", 500), "\u00e9/\u00e9")
	for _, s := range all {
		if got := names.Dir(s) + names.Base(s); got != s {
			t.Errorf("Dir and Base of %q are %q", s, got)
		}
	}
}

func TestJoinOfMemberIsTheName(t *testing.T) {
	all := texts("a.()/", 6)
	for n := range api.MaxName {
		all = append(all, strings.Repeat("l", n)+"("+strings.Repeat("m", api.MaxName-2-min(n, api.MaxName-2))+")")
	}
	seen := 0
	for _, s := range all {
		lib, member, is := names.Member(s)
		if !is {
			continue
		}
		seen++
		if got := names.Join(lib, member); got != s {
			t.Errorf("Join of Member(%q) is %q", s, got)
		}
	}
	if seen == 0 {
		t.Error("no member's name among the texts")
	}
}

// Rules for every call

// listCalls is each call that answers a list.
func listCalls() map[string]func(a, b []string) []string {
	return map[string]func(a, b []string) []string{
		"Sorted":  func(a, _ []string) []string { return names.Sorted(a) },
		"Union":   names.Union,
		"Without": names.Without,
	}
}

// roomy is the list with room behind it, and the whole of its room.
func roomy(list []string) (short, whole []string) {
	whole = append(slices.Clone(list), "room", "behind", "the", "list")
	return whole[:len(list)], whole
}

func argumentPairs() [][2][]string {
	return [][2][]string{
		{{}, {}},
		{{"a"}, {}},
		{{}, {"b", "a"}},
		{{"a", "b", "c"}, {"d"}},
		{{"c", "b", "a"}, {"b", "z"}},
		{{"b", "b", "a", "b"}, {"c", "c", "b"}},
		{{"b", "a"}, {"b", "a"}},
	}
}

func TestNoCallChangesItsLists(t *testing.T) {
	for what, call := range listCalls() {
		for _, pair := range argumentPairs() {
			a, wholeA := roomy(pair[0])
			b, wholeB := roomy(pair[1])
			keptA, keptB := slices.Clone(wholeA), slices.Clone(wholeB)
			call(a, b)
			names.Has(a, "b")
			if !slices.Equal(wholeA, keptA) || !slices.Equal(wholeB, keptB) {
				t.Errorf("%s changes %q or %q", what, pair[0], pair[1])
			}
		}
	}
}

func TestWritingOverAnAnswerChangesNothingElse(t *testing.T) {
	for what, call := range listCalls() {
		for _, pair := range argumentPairs() {
			a, wholeA := roomy(pair[0])
			b, wholeB := roomy(pair[1])
			keptA, keptB := slices.Clone(wholeA), slices.Clone(wholeB)
			first, second := call(a, b), call(a, b)
			keptSecond := slices.Clone(second)
			overwrite(first)
			if !slices.Equal(wholeA, keptA) || !slices.Equal(wholeB, keptB) {
				t.Errorf("%s: its answer is a part of %q or %q", what, pair[0], pair[1])
			}
			if !same(second, keptSecond) || !same(call(a, b), keptSecond) {
				t.Errorf("%s: two answers share their room", what)
			}
		}
	}
}

func TestWritingOverAListChangesNoAnswer(t *testing.T) {
	for what, call := range listCalls() {
		for _, pair := range argumentPairs() {
			a, _ := roomy(pair[0])
			b, _ := roomy(pair[1])
			answer := call(a, b)
			kept := slices.Clone(answer)
			overwrite(a)
			overwrite(b)
			if !same(answer, kept) {
				t.Errorf("%s: its answer hangs on %q or %q", what, pair[0], pair[1])
			}
		}
	}
}

// overwrite writes over a list and over the room behind it.
func overwrite(list []string) {
	whole := list[:cap(list)]
	for i := range whole {
		whole[i] = "written over"
	}
}

func TestSameListTwice(t *testing.T) {
	list := []string{"b", "a", "b"}
	if !same(names.Union(list, list), []string{"b", "a"}) || len(names.Without(list, list)) != 0 {
		t.Error("one list as both arguments")
	}
	if !slices.Equal(list, []string{"b", "a", "b"}) {
		t.Error("one list as both arguments is changed")
	}
}
