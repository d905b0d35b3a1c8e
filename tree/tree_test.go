package tree_test

import (
	"cmp"
	"errors"
	"math"
	"slices"
	"strings"
	"testing"

	"millwright/api"
	"millwright/names"
	"millwright/tree"
)

// file is short for a file.
func file(name, content string, time int) tree.File {
	return tree.File{Name: name, Content: content, Time: time}
}

// made is the tree of files that must be right.
func made(t *testing.T, list ...tree.File) *tree.Tree {
	t.Helper()
	out, err := tree.Of(list)
	if err != nil {
		t.Fatalf("Of(%v): %v", list, err)
	}
	return out
}

// numbered is a right name of its own for each number.
func numbered(i int) string { return "f" + strings.Repeat("i", i) }

// full is as many files as a tree may have.
func full() []tree.File {
	var list []tree.File
	for i := range api.MaxFiles {
		list = append(list, file(numbered(i%39)+strings.Repeat("!", i/39), "c", i+1))
	}
	return list
}

func sameList[T comparable](a, b []T) bool {
	return len(a) == len(b) && (len(a) == 0 || slices.Equal(a, b))
}

// wants tells whether an error is the one that is wanted (nil: none).
func wants(err, want error) bool {
	if want == nil {
		return err == nil
	}
	return err != nil && errors.Is(err, want)
}

// isOf holds all that a tree tells against the files that it should have.
func isOf(t *testing.T, tr *tree.Tree, files []tree.File, what string) {
	t.Helper()
	files = slices.Clone(files)
	slices.SortFunc(files, func(a, b tree.File) int { return cmp.Compare(a.Name, b.Name) })
	var called []string
	latest := 0
	for _, f := range files {
		called = append(called, f.Name)
		latest = max(latest, f.Time)
		if got, there := tr.Get(f.Name); !there || got != f {
			t.Errorf("%s: Get(%q) is %v, %v, not %v", what, f.Name, got, there, f)
		}
		if got := tr.Time(f.Name); got != f.Time {
			t.Errorf("%s: Time(%q) is %d, not %d", what, f.Name, got, f.Time)
		}
	}
	if got := tr.Names(); !sameList(got, called) {
		t.Errorf("%s: Names is %q, not %q", what, got, called)
	}
	if got := tr.Files(); !sameList(got, files) {
		t.Errorf("%s: Files is %v, not %v", what, got, files)
	}
	if got := tr.Latest(); got != latest {
		t.Errorf("%s: Latest is %d, not %d", what, got, latest)
	}
}

// isNone holds a tree against having no file of that name.
func isNone(t *testing.T, tr *tree.Tree, name, what string) {
	t.Helper()
	if got, there := tr.Get(name); there || got != (tree.File{}) {
		t.Errorf("%s: Get(%q) is %v, %v", what, name, got, there)
	}
	if got := tr.Time(name); got != 0 {
		t.Errorf("%s: Time(%q) is %d", what, name, got)
	}
}

var (
	longest = strings.Repeat("x", api.MaxContent)
	tooLong = longest + "x"
)

// wrongNames is texts that are no names.
func wrongNames() []string {
	return []string{"", " ", "a b", "a\n", "\x00", "\x7f", "\xff", "\u00e9", strings.Repeat("n", api.MaxName+1)}
}

// rightNames is names that look odd.
func rightNames() []string {
	return []string{"a", "!", "~", "a/b.c", "/", "lib.a(x.o)", "()", strings.Repeat("n", api.MaxName)}
}

func wrongTimes() []int {
	return []int{0, -1, math.MinInt, api.MaxTick + 1, math.MaxInt}
}

// P2.1

func TestNew(t *testing.T) {
	tr := tree.New()
	isOf(t, tr, nil, "New")
	for _, name := range []string{"a", "", "a b"} {
		isNone(t, tr, name, "New")
		if err := tr.Remove(name); !wants(err, api.ErrNone) {
			t.Errorf("Remove(%q) of no files: %v", name, err)
		}
	}
	if other := tree.New(); !tree.Same(tr, other) || other == tr {
		t.Error("two trees without files")
	}
	isOf(t, tr.Copy(), nil, "Copy of no files")
}

func TestNewTreesAreApart(t *testing.T) {
	a, b := tree.New(), tree.New()
	if err := a.Put("a", "x", 1); err != nil {
		t.Fatal(err)
	}
	isOf(t, b, nil, "the other tree")
}

func TestPut(t *testing.T) {
	tr := tree.New()
	steps := []struct {
		f    tree.File
		then []tree.File
	}{
		{file("b", "x", 3), []tree.File{file("b", "x", 3)}},
		{file("a", "", 5), []tree.File{file("a", "", 5), file("b", "x", 3)}},
		{file("b", "y", 4), []tree.File{file("a", "", 5), file("b", "y", 4)}},
		{file("b", "y", 2), []tree.File{file("a", "", 5), file("b", "y", 2)}},
		{file("b", "y", 2), []tree.File{file("a", "", 5), file("b", "y", 2)}},
		{file("a", "\x00\xff\n", 1), []tree.File{file("a", "\x00\xff\n", 1), file("b", "y", 2)}},
		{file("b", "", 2), []tree.File{file("a", "\x00\xff\n", 1), file("b", "", 2)}},
	}
	for _, s := range steps {
		if err := tr.Put(s.f.Name, s.f.Content, s.f.Time); err != nil {
			t.Errorf("Put(%v): %v", s.f, err)
		}
		isOf(t, tr, s.then, "Put")
	}
}

func TestTouch(t *testing.T) {
	tr := tree.New()
	if err := tr.Touch("a", 5); err != nil {
		t.Fatal(err)
	}
	isOf(t, tr, []tree.File{file("a", "", 5)}, "Touch of a file that isn't there")
	tr = made(t, file("a", "x", 5), file("b", "y", 6))
	for _, time := range []int{7, 2, 2, 1, api.MaxTick} {
		if err := tr.Touch("a", time); err != nil {
			t.Errorf("Touch at %d: %v", time, err)
		}
		isOf(t, tr, []tree.File{file("a", "x", time), file("b", "y", 6)}, "Touch of a file that is there")
	}
}

func TestRemove(t *testing.T) {
	tr := made(t, file("a", "x", 5), file("b", "y", 6))
	for _, name := range append(wrongNames(), "c", "A", "ab") {
		if err := tr.Remove(name); !wants(err, api.ErrNone) {
			t.Errorf("Remove(%q): %v", name, err)
		}
	}
	isOf(t, tr, []tree.File{file("a", "x", 5), file("b", "y", 6)}, "Remove of none")
	if err := tr.Remove("b"); err != nil {
		t.Error(err)
	}
	isOf(t, tr, []tree.File{file("a", "x", 5)}, "Remove")
	isNone(t, tr, "b", "Remove")
	if err := tr.Remove("b"); !wants(err, api.ErrNone) {
		t.Errorf("Remove again: %v", err)
	}
	if err := tr.Remove("a"); err != nil {
		t.Error(err)
	}
	isOf(t, tr, nil, "Remove of the last one")
}

func TestTouchOfWhatWasRemovedHasNoContent(t *testing.T) {
	tr := made(t, file("a", "x", 5))
	if tr.Remove("a") != nil || tr.Touch("a", 3) != nil {
		t.Error("Remove and Touch")
	}
	isOf(t, tr, []tree.File{file("a", "", 3)}, "Touch behind Remove")
}

func TestGetOfWhatIsNotThere(t *testing.T) {
	tr := made(t, file("a", "x", 5), file("a/b", "y", 6))
	for _, name := range append(wrongNames(), "A", "a/", "/a", "b", "aa") {
		isNone(t, tr, name, "two files")
	}
}

func TestNamesRiseByTheirBytes(t *testing.T) {
	rising := []string{"!", "10", "9", "A", "Z", "_", "a", "a!", "a/b", "aa", "b", "~"}
	forth, back := tree.New(), tree.New()
	for i := range rising {
		if forth.Touch(rising[i], i+1) != nil || back.Touch(rising[len(rising)-1-i], i+1) != nil {
			t.Fatal("Touch")
		}
	}
	if !slices.Equal(forth.Names(), rising) || !slices.Equal(back.Names(), rising) {
		t.Errorf("%q, %q", forth.Names(), back.Names())
	}
	for i, f := range back.Files() {
		if f != file(rising[i], "", len(rising)-i) {
			t.Errorf("Files: %v at %d", f, i)
		}
	}
}

func TestLatest(t *testing.T) {
	tr := made(t, file("a", "", 3), file("b", "", 9), file("c", "", 9), file("d", "", 1))
	steps := []struct {
		act  func() error
		want int
	}{
		{func() error { return nil }, 9},
		{func() error { return tr.Remove("b") }, 9},
		{func() error { return tr.Touch("c", 2) }, 3},
		{func() error { return tr.Touch("d", 4) }, 4},
		{func() error { return tr.Put("a", "z", api.MaxTick) }, api.MaxTick},
		{func() error { return tr.Remove("a") }, 4},
		{func() error { return tr.Remove("d") }, 2},
		{func() error { return tr.Remove("c") }, 0},
	}
	for i, s := range steps {
		if err := s.act(); err != nil || tr.Latest() != s.want {
			t.Errorf("step %d: %v, Latest is %d, not %d", i, err, tr.Latest(), s.want)
		}
	}
}

func TestRightAndWrongNames(t *testing.T) {
	for _, name := range rightNames() {
		put, touched := tree.New(), tree.New()
		if err := put.Put(name, "x", 1); err != nil {
			t.Errorf("Put(%q): %v", name, err)
		}
		isOf(t, put, []tree.File{file(name, "x", 1)}, "Put")
		if err := touched.Touch(name, 1); err != nil {
			t.Errorf("Touch(%q): %v", name, err)
		}
		isOf(t, touched, []tree.File{file(name, "", 1)}, "Touch")
		if err := put.Remove(name); err != nil {
			t.Errorf("Remove(%q): %v", name, err)
		}
	}
	tr := tree.New()
	for _, name := range wrongNames() {
		if err := tr.Put(name, "x", 1); !wants(err, api.ErrName) {
			t.Errorf("Put(%q): %v", name, err)
		}
		if err := tr.Touch(name, 1); !wants(err, api.ErrName) {
			t.Errorf("Touch(%q): %v", name, err)
		}
		if _, err := tree.Of([]tree.File{file(name, "x", 1)}); !wants(err, api.ErrName) {
			t.Errorf("Of %q: %v", name, err)
		}
	}
	isOf(t, tr, nil, "wrong names")
}

func TestLengthsOfContents(t *testing.T) {
	tr := tree.New()
	for _, content := range []string{"", "x", longest[1:], longest, strings.Repeat("\xff", api.MaxContent)} {
		if err := tr.Put("a", content, 1); err != nil {
			t.Errorf("Put of %d bytes: %v", len(content), err)
		}
		isOf(t, tr, []tree.File{file("a", content, 1)}, "a content")
		isOf(t, made(t, file("a", content, 1)), []tree.File{file("a", content, 1)}, "Of a content")
	}
	for _, content := range []string{tooLong, strings.Repeat("\u00e9", api.MaxContent/2) + "x", strings.Repeat("x", 100000)} {
		if err := tr.Put("b", content, 1); !wants(err, api.ErrLong) {
			t.Errorf("Put of %d bytes: %v", len(content), err)
		}
		if _, err := tree.Of([]tree.File{file("b", content, 1)}); !wants(err, api.ErrLong) {
			t.Errorf("Of %d bytes: %v", len(content), err)
		}
	}
	isNone(t, tr, "b", "a content that is too long")
}

func TestTimes(t *testing.T) {
	for _, time := range []int{1, 2, api.MaxTick - 1, api.MaxTick} {
		put, touched := tree.New(), tree.New()
		if err := put.Put("a", "x", time); err != nil {
			t.Errorf("Put at %d: %v", time, err)
		}
		isOf(t, put, []tree.File{file("a", "x", time)}, "Put")
		if err := touched.Touch("a", time); err != nil {
			t.Errorf("Touch at %d: %v", time, err)
		}
		isOf(t, touched, []tree.File{file("a", "", time)}, "Touch")
		isOf(t, made(t, file("a", "x", time)), []tree.File{file("a", "x", time)}, "Of")
	}
	tr := made(t, file("b", "y", 7))
	for _, time := range wrongTimes() {
		for _, name := range []string{"a", "b"} {
			if err := tr.Put(name, "x", time); !wants(err, api.ErrRange) {
				t.Errorf("Put(%q) at %d: %v", name, time, err)
			}
			if err := tr.Touch(name, time); !wants(err, api.ErrRange) {
				t.Errorf("Touch(%q) at %d: %v", name, time, err)
			}
		}
		if _, err := tree.Of([]tree.File{file("a", "x", time)}); !wants(err, api.ErrRange) {
			t.Errorf("Of a file at %d: %v", time, err)
		}
	}
	isOf(t, tr, []tree.File{file("b", "y", 7)}, "wrong times")
}

func TestFullTree(t *testing.T) {
	list := full()
	tr := tree.New()
	for i, f := range list {
		if err := tr.Put(f.Name, f.Content, f.Time); err != nil {
			t.Fatalf("file %d: %v", i+1, err)
		}
	}
	isOf(t, tr, list, "as many files as may be")
	if err := tr.Put("new", "x", 1); !wants(err, api.ErrFull) {
		t.Errorf("Put of one more: %v", err)
	}
	if err := tr.Touch("new", 1); !wants(err, api.ErrFull) {
		t.Errorf("Touch of one more: %v", err)
	}
	isOf(t, tr, list, "one more")
	isNone(t, tr, "new", "one more")

	list[3].Content, list[3].Time = "other", 99
	if err := tr.Put(list[3].Name, "other", 99); err != nil {
		t.Errorf("Put of a file that is there: %v", err)
	}
	list[9].Time = 98
	if err := tr.Touch(list[9].Name, 98); err != nil {
		t.Errorf("Touch of a file that is there: %v", err)
	}
	isOf(t, tr, list, "files that are there")

	if err := tr.Remove(list[0].Name); err != nil {
		t.Fatal(err)
	}
	list[0] = file("new", "", 1)
	if err := tr.Touch("new", 1); err != nil {
		t.Errorf("Touch where one is gone: %v", err)
	}
	isOf(t, tr, list, "one for one that is gone")
	if err := tr.Put("newer", "", 1); !wants(err, api.ErrFull) {
		t.Errorf("Put when it is full again: %v", err)
	}
}

func TestFullTreeByTouchAlone(t *testing.T) {
	tr := tree.New()
	for i, f := range full() {
		if err := tr.Touch(f.Name, 1); err != nil {
			t.Fatalf("file %d: %v", i+1, err)
		}
	}
	if err := tr.Touch("new", 1); !wants(err, api.ErrFull) || len(tr.Names()) != api.MaxFiles {
		t.Errorf("one more: %v", err)
	}
}

func TestErrorsInTheirOrder(t *testing.T) {
	name, content, time := "a b", tooLong, 0
	put := []struct {
		f    tree.File
		want error
	}{
		{file(name, content, time), api.ErrName},
		{file(name, content, 1), api.ErrName},
		{file(name, "x", time), api.ErrName},
		{file(name, "x", 1), api.ErrName},
		{file("new", content, time), api.ErrLong},
		{file("new", content, 1), api.ErrLong},
		{file("new", "x", time), api.ErrRange},
		{file("new", "x", api.MaxTick+1), api.ErrRange},
		{file("new", "x", 1), api.ErrFull},
		{file("f", content, time), api.ErrLong},
		{file("f", "x", time), api.ErrRange},
	}
	touch := []struct {
		name string
		time int
		want error
	}{
		{name, time, api.ErrName},
		{name, 1, api.ErrName},
		{"new", time, api.ErrRange},
		{"new", api.MaxTick + 1, api.ErrRange},
		{"new", 1, api.ErrFull},
		{"f", time, api.ErrRange},
	}
	tr := made(t, full()...)
	before := tr.Copy()
	for _, c := range put {
		if err := tr.Put(c.f.Name, c.f.Content, c.f.Time); !wants(err, c.want) {
			t.Errorf("Put(%q, %d bytes, %d): %v, not %v", c.f.Name, len(c.f.Content), c.f.Time, err, c.want)
		}
	}
	for _, c := range touch {
		if err := tr.Touch(c.name, c.time); !wants(err, c.want) {
			t.Errorf("Touch(%q, %d): %v, not %v", c.name, c.time, err, c.want)
		}
	}
	if err := tr.Remove("new"); !wants(err, api.ErrNone) {
		t.Errorf("Remove: %v", err)
	}
	isOf(t, tr, full(), "errors")
	if !tree.Same(tr, before) {
		t.Error("a call with an error changes the tree")
	}
}

func TestOf(t *testing.T) {
	lists := [][]tree.File{
		nil,
		{},
		{file("a", "x", 1)},
		{file("b", "x", 2), file("a", "", 1), file("c", "z", api.MaxTick)},
		{file("a", "x", 5), file("A", "x", 5), file("a/", "x", 5)},
		full(),
	}
	for _, list := range lists {
		isOf(t, made(t, list...), list, "Of")
	}
}

func TestOfErrors(t *testing.T) {
	a := file("a", "x", 1)
	cases := []struct {
		list []tree.File
		want error
	}{
		{[]tree.File{a, a}, api.ErrDup},
		{[]tree.File{a, file("a", "other", 9)}, api.ErrDup},
		{[]tree.File{a, file("b", "", 1), file("a", "", 2)}, api.ErrDup},
		{[]tree.File{a, file("a", tooLong, 1)}, api.ErrDup},
		{[]tree.File{a, file("a", "", 0)}, api.ErrDup},
		{[]tree.File{a, file("a", tooLong, 0)}, api.ErrDup},
		{append(full(), file("f", "x", 1)), api.ErrDup},
		{append(full(), file("f", tooLong, -1)), api.ErrDup},
		{append(full(), file("new", "x", 1)), api.ErrFull},
		{append(full(), file("new", "x", 0)), api.ErrRange},
		{append(full(), file("new", tooLong, 0)), api.ErrLong},
		{append(full(), file("a b", tooLong, 0)), api.ErrName},
		{append(full(), file("new", "x", 1), file("", "", 0)), api.ErrFull},
		{[]tree.File{file("", "", 1)}, api.ErrName},
		{[]tree.File{{}}, api.ErrName},
		{[]tree.File{{}, {}}, api.ErrName},
		{[]tree.File{file("a", "", 0), file("a", "", 0)}, api.ErrRange},
		{[]tree.File{a, file("b", "", 0), a}, api.ErrRange},
		{[]tree.File{a, a, file("b c", "", 1)}, api.ErrDup},
		{[]tree.File{a, file("b c", "", 1), a}, api.ErrName},
		{[]tree.File{file("a", "", 0), file("b", tooLong, 1), file("c d", "", 1)}, api.ErrRange},
		{[]tree.File{file("b", tooLong, 1), file("c d", "", 1)}, api.ErrLong},
		{[]tree.File{a, file("c d", "", 1), file("b", tooLong, 1)}, api.ErrName},
	}
	for i, c := range cases {
		tr, err := tree.Of(c.list)
		if !wants(err, c.want) {
			t.Errorf("case %d: %v, not %v", i, err, c.want)
		}
		if tr != nil {
			t.Errorf("case %d: a tree beside an error", i)
		}
	}
}

func TestSame(t *testing.T) {
	a, b, c := file("a", "x", 1), file("b", "y", 2), file("c", "z", 3)
	cases := []struct {
		one, two []tree.File
		want     bool
	}{
		{nil, nil, true},
		{nil, []tree.File{a}, false},
		{[]tree.File{a}, []tree.File{a}, true},
		{[]tree.File{a, b, c}, []tree.File{c, a, b}, true},
		{[]tree.File{a, b, c}, []tree.File{c, b, a}, true},
		{[]tree.File{a, b, c}, []tree.File{a, b}, false},
		{[]tree.File{a, b}, []tree.File{a, c}, false},
		{[]tree.File{a, b}, []tree.File{a, file("b", "other", 2)}, false},
		{[]tree.File{a, b}, []tree.File{a, file("b", "", 2)}, false},
		{[]tree.File{a, b}, []tree.File{a, file("b", "y", 3)}, false},
		{[]tree.File{a, b}, []tree.File{a, file("B", "y", 2)}, false},
		{[]tree.File{a, b}, []tree.File{file("a", "y", 2), file("b", "x", 1)}, false},
		{[]tree.File{file("a", "x", 1)}, []tree.File{file("b", "x", 1)}, false},
	}
	for i, c := range cases {
		one, two := made(t, c.one...), made(t, c.two...)
		if tree.Same(one, two) != c.want || tree.Same(two, one) != c.want {
			t.Errorf("case %d: Same is not %v", i, c.want)
		}
		if !tree.Same(one, one) || !tree.Same(two, two) {
			t.Errorf("case %d: a tree isn't the same as itself", i)
		}
	}
}

func TestSameOfTreesThatCameToBeInOtherWays(t *testing.T) {
	one, two := made(t, file("b", "y", 2), file("a", "x", 1)), tree.New()
	for _, err := range []error{two.Touch("a", 1), two.Put("c", "z", 3), two.Put("b", "q", 7), two.Put("a", "x", 1), two.Put("b", "y", 7), two.Remove("c"), two.Touch("b", 2)} {
		if err != nil {
			t.Fatal(err)
		}
	}
	if !tree.Same(one, two) {
		t.Error("Same tells how a tree came to be")
	}
}

func TestSameOfNil(t *testing.T) {
	some := made(t, file("a", "x", 1))
	if !tree.Same(nil, nil) || !tree.Same(nil, tree.New()) || !tree.Same(tree.New(), nil) {
		t.Error("nil has files")
	}
	if tree.Same(nil, some) || tree.Same(some, nil) {
		t.Error("nil is the same as a tree with a file")
	}
}

func TestDeclaredTree(t *testing.T) {
	var put, touched, removed tree.Tree
	isOf(t, &put, nil, "a tree that is declared")
	isOf(t, put.Copy(), nil, "its copy")
	if err := removed.Remove("a"); !wants(err, api.ErrNone) {
		t.Errorf("Remove: %v", err)
	}
	if err := put.Put("a", "x", 1); err != nil {
		t.Errorf("Put: %v", err)
	}
	isOf(t, &put, []tree.File{file("a", "x", 1)}, "Put")
	if err := touched.Touch("a", 1); err != nil {
		t.Errorf("Touch: %v", err)
	}
	isOf(t, &touched, []tree.File{file("a", "", 1)}, "Touch")
}

func TestNilTree(t *testing.T) {
	var none *tree.Tree
	isOf(t, none, nil, "a tree that is nil")
	isOf(t, none.Copy(), nil, "its copy")
	for what, got := range map[string][2]error{
		"Put":              {none.Put("a", "x", 1), api.ErrFull},
		"Put of no name":   {none.Put("a b", "x", 1), api.ErrName},
		"Put of too much":  {none.Put("a", tooLong, 1), api.ErrLong},
		"Put at no time":   {none.Put("a", "x", 0), api.ErrRange},
		"Touch":            {none.Touch("a", 1), api.ErrFull},
		"Touch of no name": {none.Touch("", 1), api.ErrName},
		"Touch at no time": {none.Touch("a", 0), api.ErrRange},
		"Remove":           {none.Remove("a"), api.ErrNone},
	} {
		if !wants(got[0], got[1]) {
			t.Errorf("%s: %v, not %v", what, got[0], got[1])
		}
	}
}

// act is one call that may change a tree, and what the chapter's words do to a list of files.
type act struct {
	what  string
	do    func(*tree.Tree) error
	model func([]tree.File) ([]tree.File, error)
}

func at(files []tree.File, name string) int {
	return slices.IndexFunc(files, func(f tree.File) bool { return f.Name == name })
}

// set is what a list of files is with that file.
func set(files []tree.File, f tree.File) ([]tree.File, error) {
	switch i := at(files, f.Name); {
	case !names.Right(f.Name):
		return files, api.ErrName
	case len(f.Content) > api.MaxContent:
		return files, api.ErrLong
	case f.Time < 1 || f.Time > api.MaxTick:
		return files, api.ErrRange
	case i < 0:
		return append(slices.Clone(files), f), nil
	default:
		out := slices.Clone(files)
		out[i] = f
		return out, nil
	}
}

func putAct(f tree.File) act {
	return act{
		"Put of " + f.Name,
		func(tr *tree.Tree) error { return tr.Put(f.Name, f.Content, f.Time) },
		func(files []tree.File) ([]tree.File, error) { return set(files, f) },
	}
}

func touchAct(name string, time int) act {
	return act{
		"Touch of " + name,
		func(tr *tree.Tree) error { return tr.Touch(name, time) },
		func(files []tree.File) ([]tree.File, error) {
			f := file(name, "", time)
			if i := at(files, name); i >= 0 {
				f.Content = files[i].Content
			}
			return set(files, f)
		},
	}
}

func removeAct(name string) act {
	return act{
		"Remove of " + name,
		func(tr *tree.Tree) error { return tr.Remove(name) },
		func(files []tree.File) ([]tree.File, error) {
			i := at(files, name)
			if i < 0 {
				return files, api.ErrNone
			}
			return slices.Delete(slices.Clone(files), i, i+1), nil
		},
	}
}

func acts() []act {
	return []act{
		putAct(file("a", "x", 4)),
		putAct(file("a", "y", 2)),
		putAct(file("b", "x", 3)),
		putAct(file("b", tooLong, 1)),
		touchAct("a", 5),
		touchAct("b", 1),
		touchAct("b", 0),
		touchAct("c", 2),
		touchAct("", 2),
		removeAct("a"),
		removeAct("b"),
		removeAct("c"),
	}
}

// walk does all rows of most acts, one behind the other, and holds the tree against the model behind each.
func walk(t *testing.T, tr *tree.Tree, files []tree.File, what string, most int) {
	isOf(t, tr, files, what)
	if most == 0 || t.Failed() {
		return
	}
	for _, a := range acts() {
		next := tr.Copy()
		then, want := a.model(files)
		if err := a.do(next); !wants(err, want) {
			t.Errorf("%s, %s: %v, not %v", what, a.what, err, want)
		}
		walk(t, next, then, what+", "+a.what, most-1)
	}
	isOf(t, tr, files, what+" behind what was done to its copies")
}

func TestEveryOrder(t *testing.T) { walk(t, tree.New(), nil, "no files", 4) }

func TestEveryOrderWithoutCopies(t *testing.T) {
	all := acts()
	for n := range len(all) * len(all) * len(all) {
		tr, files := tree.New(), []tree.File(nil)
		for _, i := range []int{n % len(all), n / len(all) % len(all), n / len(all) / len(all)} {
			then, want := all[i].model(files)
			if err := all[i].do(tr); !wants(err, want) {
				t.Fatalf("row %d, %s: %v, not %v", n, all[i].what, err, want)
			}
			files = then
			isOf(t, tr, files, all[i].what)
		}
	}
}

// P2.2

func TestOneFileLeavesTheOthers(t *testing.T) {
	all := []tree.File{file("a", "x", 1), file("a.b", "y", 9), file("aa", "", 5), file("A", "x", 1), file("lib.a", "z", 3), file("lib.a(x)", "w", 2)}
	for i, f := range all {
		rest := slices.Delete(slices.Clone(all), i, i+1)
		doings := map[string]struct {
			do   func(*tree.Tree) error
			then []tree.File
		}{
			"Put":    {func(tr *tree.Tree) error { return tr.Put(f.Name, "new", 7) }, append(slices.Clone(rest), file(f.Name, "new", 7))},
			"Touch":  {func(tr *tree.Tree) error { return tr.Touch(f.Name, 7) }, append(slices.Clone(rest), file(f.Name, f.Content, 7))},
			"Remove": {func(tr *tree.Tree) error { return tr.Remove(f.Name) }, rest},
		}
		for what, d := range doings {
			tr := made(t, all...)
			if err := d.do(tr); err != nil {
				t.Errorf("%s of %s: %v", what, f.Name, err)
			}
			isOf(t, tr, d.then, what+" of "+f.Name)
		}
		tr := made(t, rest...)
		if err := tr.Put(f.Name, f.Content, f.Time); err != nil {
			t.Error(err)
		}
		isOf(t, tr, all, "Put of a new file "+f.Name)
	}
}

// Rules for every call

func TestOfChangesNoList(t *testing.T) {
	lists := [][]tree.File{
		{file("c", "x", 3), file("a", "y", 2), file("b", "", 1)},
		{file("c", "x", 3), file("a", "y", 2), file("c", "", 1)},
		{file("c", "x", 3), file("", "y", 2)},
	}
	for _, list := range lists {
		whole := append(slices.Clone(list), file("room", "behind", 1))
		kept := slices.Clone(whole)
		tr, err := tree.Of(whole[:len(list)])
		if !slices.Equal(whole, kept) {
			t.Errorf("Of changes %v", list)
		}
		if err != nil {
			continue
		}
		for i := range whole {
			whole[i] = file("over", "written", 8)
		}
		isOf(t, tr, list, "a list that is written over")
		if err := tr.Put("c", "other", 5); err != nil || whole[0] != file("over", "written", 8) {
			t.Error("a Put writes to Of's list")
		}
	}
}

func TestNamesAndFilesAreTheCallers(t *testing.T) {
	list := []tree.File{file("a", "y", 2), file("b", "", 1), file("c", "x", 3)}
	tr := made(t, list...)
	called, files := tr.Names(), tr.Files()
	otherNames, otherFiles := tr.Names(), tr.Files()
	for i := range called[:cap(called)] {
		called[:cap(called)][i] = "written over"
	}
	for i := range files[:cap(files)] {
		files[:cap(files)][i] = file("over", "written", 8)
	}
	isOf(t, tr, list, "answers that are written over")
	if !slices.Equal(otherNames, []string{"a", "b", "c"}) || !slices.Equal(otherFiles, list) {
		t.Error("two answers share their room")
	}
	if tr.Remove("a") != nil || tr.Put("b", "new", 9) != nil {
		t.Error("Remove and Put")
	}
	if !slices.Equal(otherNames, []string{"a", "b", "c"}) || !slices.Equal(otherFiles, list) {
		t.Error("what is done to a tree changes what it answered")
	}
}

func TestCopyIsApart(t *testing.T) {
	list := []tree.File{file("a", "x", 1), file("b", "y", 2), file("c", "z", 3)}
	changed := []tree.File{file("a", "new", 9), file("c", "z", 8), file("d", "", 7)}
	change := func(tr *tree.Tree) {
		for _, err := range []error{tr.Put("a", "new", 9), tr.Remove("b"), tr.Touch("c", 8), tr.Touch("d", 7)} {
			if err != nil {
				t.Error(err)
			}
		}
	}
	tr := made(t, list...)
	one, two := tr.Copy(), tr.Copy()
	isOf(t, one, list, "a copy")
	if !tree.Same(tr, one) || one == tr {
		t.Error("a copy isn't the same, or it is the tree")
	}
	change(one)
	isOf(t, one, changed, "the copy that changes")
	isOf(t, tr, list, "the tree whose copy changes")
	isOf(t, two, list, "the other copy")
	change(tr)
	isOf(t, tr, changed, "the tree that changes")
	isOf(t, two, list, "the copy whose tree changes")
}

func TestReadingChangesNothing(t *testing.T) {
	list := []tree.File{file("b", "x", 3), file("a", "y", 2)}
	tr, other := made(t, list...), made(t, list...)
	for range 3 {
		tr.Get("c")
		tr.Get("a")
		tr.Time("c")
		tr.Names()
		tr.Files()
		tr.Latest()
		tr.Copy()
		tree.Same(tr, tree.New())
		tree.Same(tree.New(), tr)
	}
	isOf(t, tr, list, "a tree that was read")
	if !tree.Same(tr, other) {
		t.Error("reading changes a tree")
	}
}

func TestCallsWithAnErrorChangeNothing(t *testing.T) {
	list := []tree.File{file("a", "x", 1), file("b", "y", 2)}
	tr := made(t, list...)
	calls := map[string]struct {
		do   func() error
		want error
	}{
		"Put of no name":        {func() error { return tr.Put("a b", "z", 9) }, api.ErrName},
		"Put of too much":       {func() error { return tr.Put("a", tooLong, 9) }, api.ErrLong},
		"Put at no time":        {func() error { return tr.Put("a", "z", 0) }, api.ErrRange},
		"Put beyond all time":   {func() error { return tr.Put("c", "z", api.MaxTick+1) }, api.ErrRange},
		"Touch of no name":      {func() error { return tr.Touch("", 9) }, api.ErrName},
		"Touch at no time":      {func() error { return tr.Touch("a", 0) }, api.ErrRange},
		"Touch beyond all time": {func() error { return tr.Touch("c", api.MaxTick+1) }, api.ErrRange},
		"Remove of none":        {func() error { return tr.Remove("c") }, api.ErrNone},
	}
	for what, c := range calls {
		if err := c.do(); !wants(err, c.want) {
			t.Errorf("%s: %v, not %v", what, err, c.want)
		}
		isOf(t, tr, list, what)
	}
}
