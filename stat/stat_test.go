package stat_test

import (
	"errors"
	"math"
	"slices"
	"strconv"
	"strings"
	"testing"

	"millwright/api"
	"millwright/ar"
	"millwright/stat"
	"millwright/tree"
)

const start = "!<arch>\n"

// member is short for a member.
func member(name string, time int, content string) ar.Member {
	return ar.Member{Name: name, Time: time, Content: content}
}

// text is the archive that layer 3's words tell of right members.
func text(list ...ar.Member) string {
	s := start
	for _, m := range list {
		s += wide(m.Name, 16) + wide(strconv.Itoa(m.Time), 12) + "0     0     644     "
		s += wide(strconv.Itoa(len(m.Content)), 10) + "`\n" + m.Content
		if len(m.Content)%2 == 1 {
			s += "\n"
		}
	}
	return s
}

// wide is a text with blanks behind it, up to that many bytes.
func wide(s string, bytes int) string { return s + strings.Repeat(" ", bytes-len(s)) }

// file is short for a file.
func file(name, content string, time int) tree.File {
	return tree.File{Name: name, Content: content, Time: time}
}

// made is the tree of files that must be right.
func made(t *testing.T, list ...tree.File) *tree.Tree {
	t.Helper()
	out, err := tree.Of(list)
	if err != nil {
		t.Fatalf("Of(%v): %v", list, err)
	}
	return out
}

// full is as many files as a tree may have, those of a list among them.
func full(list ...tree.File) []tree.File {
	out := slices.Clone(list)
	for i := len(list); i < api.MaxFiles; i++ {
		out = append(out, file("f"+strconv.Itoa(i), "c", i+1))
	}
	return out
}

// filled is an archive of just MaxContent bytes: its members are a, with content, and big.
func filled() string {
	s := text(member("a", 3, "odd"), member("big", 4, strings.Repeat("x", api.MaxContent-len(start)-64-60)))
	if len(s) != api.MaxContent {
		panic("not filled")
	}
	return s
}

func sameList[T comparable](a, b []T) bool {
	return len(a) == len(b) && (len(a) == 0 || slices.Equal(a, b))
}

// wants tells whether an error is the one that is wanted (nil: none).
func wants(err, want error) bool {
	if want == nil {
		return err == nil
	}
	return err != nil && errors.Is(err, want)
}

// has holds a tree's files against a list, in any order.
func has(t *testing.T, tr *tree.Tree, files []tree.File, what string) {
	t.Helper()
	if !tree.Same(tr, made(t, files...)) {
		t.Errorf("%s: the tree has %v, not %v", what, tr.Files(), files)
	}
}

// isAt holds the time of a name against what it should be.
func isAt(t *testing.T, tr *tree.Tree, name string, want int) {
	t.Helper()
	if got := stat.Of(tr, name); got != want {
		t.Errorf("Of(%q) is %d, not %d", name, got, want)
	}
}

// isSet holds Set in a tree of files against the files that there should be then.
func isSet(t *testing.T, files []tree.File, name string, time int, then []tree.File) {
	t.Helper()
	tr := made(t, files...)
	if err := stat.Set(tr, name, time); err != nil {
		t.Errorf("Set(%q, %d) of %v: %v", name, time, files, err)
	}
	has(t, tr, then, "Set of "+name)
	isAt(t, tr, name, time)
}

// isRefused holds Set against an error that leaves the tree as it was.
func isRefused(t *testing.T, files []tree.File, name string, time int, want error) {
	t.Helper()
	tr := made(t, files...)
	if err := stat.Set(tr, name, time); !wants(err, want) {
		t.Errorf("Set(%q, %d) of %v: %v, not %v", name, time, files, err, want)
	}
	has(t, tr, files, "Set of "+name+" with an error")
}

func wrongTimes() []int { return []int{0, -1, math.MinInt, api.MaxTick + 1, math.MaxInt} }

func rightTimes() []int { return []int{1, 2, api.MaxTick - 1, api.MaxTick} }

// nearly is right names that are no member's name, though they look like one.
func nearly() []string {
	return []string{
		"lib.a(x.o", "lib.ax.o)", "lib.a()", "(x.o)", "()", "(", ")", "lib.a(", "lib.a)",
		"lib.a(x.o)z", "lib.a(x.o))", "lib.a((x.o)", "lib.a(x)(x.o)", "lib.a(x.o)(", "lib.a)x.o(", ")lib.a(x.o)",
		"lib.a[x.o]", "lib.a{x.o}", "lib.a(x)o)", "lib.a(x(o)", "x.o", "lib.a/x.o",
	}
}

// noNames is texts that are no names, nor members' names.
func noNames() []string {
	return []string{
		"", " ", "a b", "lib.a (x.o)", "lib.a( x.o)", "lib.a(x.o )", "lib.a(x.o) ", " lib.a(x.o)", "lib.a(x.o)\n", "lib.a(\x00)",
		"lib.a(\u00e9)", "\xff(x.o)", "lib.a(x\x7f)", "lib.a(" + strings.Repeat("x", api.MaxName+1-7) + ")", strings.Repeat("n", api.MaxName+1),
	}
}

// unfit is members' names (layer 1), by the names of members that are not right for an archive (layer 3).
func unfit() []string {
	return []string{"lib.a(sixteen---bytes!)", "lib.a(x/y)", "lib.a(/)", "lib.a(x/)", "lib.a(" + strings.Repeat("x", api.MaxName-7) + ")"}
}

// P4.1: Of

func TestOfFiles(t *testing.T) {
	tr := made(t, file("a", "x", 1), file("b", "", 70), file("d/c", "y", api.MaxTick), file("!", text(member("a", 9, "")), 5))
	for name, want := range map[string]int{"a": 1, "b": 70, "d/c": api.MaxTick, "!": 5} {
		isAt(t, tr, name, want)
	}
	for _, name := range append(noNames(), "A", "aa", "c", "d", "d/", "/a", "x.o", "lib.a") {
		isAt(t, tr, name, 0)
	}
	isAt(t, tree.New(), "a", 0)
}

func TestOfMembers(t *testing.T) {
	lib := text(member("x.o", 7, "odd"), member("y.o", 2, ""), member("fifteen--bytes!", api.MaxTick, "z"), member("lib.a", 1, "even"))
	tr := made(t, file("lib.a", lib, 5), file("d/l", text(member("x.o", 8, "")), 9), file("x.o", "x", 99))
	for name, want := range map[string]int{
		"lib.a(x.o)": 7, "lib.a(y.o)": 2, "lib.a(fifteen--bytes!)": api.MaxTick, "lib.a(lib.a)": 1, "d/l(x.o)": 8, "lib.a": 5, "x.o": 99,
	} {
		isAt(t, tr, name, want)
	}
	for _, name := range []string{
		"lib.a(z.o)", "lib.a(X.o)", "lib.a(x.o.)", "lib.a(x)", "lib.a(fifteen--bytes)", "lib.a(d/l)", "d/l(y.o)",
		"l(x.o)", "d(x.o)", "d/lib.a(x.o)", "LIB.a(x.o)", "b(x.o)",
	} {
		isAt(t, tr, name, 0)
	}
	for _, name := range slices.Concat(unfit(), noNames()) {
		isAt(t, tr, name, 0)
	}
}

func TestOfMembersOfWhatIsNoArchive(t *testing.T) {
	lib := text(member("x.o", 7, "odd"))
	long := text(member("x.o", 7, strings.Repeat("x", api.MaxContent-len(start)-60)))
	isAt(t, made(t, file("lib.a", long, 5)), "lib.a(x.o)", 7)
	for _, content := range []string{
		"", "x", start, start[:7], lib[1:], lib[:len(lib)-1], lib + "\n", lib + "x", lib + lib[len(start):], strings.Replace(lib, "7", "0", 1),
		strings.Replace(lib, "644", "755", 1), text(member("y.o", 7, "")),
	} {
		tr := made(t, file("lib.a", content, 5))
		isAt(t, tr, "lib.a(x.o)", 0)
		isAt(t, tr, "lib.a", 5)
	}
}

func TestOfFilesThatAreCalledNearlyAsMembers(t *testing.T) {
	lib := text(member("x.o", 7, ""), member("x", 8, ""))
	for i, name := range nearly() {
		if name != "x.o" {
			isAt(t, made(t, file("lib.a", lib, 5), file("x.o", "", 6)), name, 0)
		}
		isAt(t, made(t, file("lib.a", lib, 5), file(name, "", i+10)), name, i+10)
	}
}

func TestOfAFileThatIsCalledAsAMember(t *testing.T) {
	lib, odd := file("lib.a", text(member("x.o", 7, "")), 5), file("lib.a(x.o)", "", 9)
	isAt(t, made(t, odd), "lib.a(x.o)", 0)
	isAt(t, made(t, odd, lib), "lib.a(x.o)", 7)
	isAt(t, made(t, odd, file("lib.a", start, 5)), "lib.a(x.o)", 0)
	unfitting := file("lib.a(x/y)", "", 9)
	isAt(t, made(t, unfitting, lib), "lib.a(x/y)", 0)
}

// P4.1: Set

func TestSetOfFiles(t *testing.T) {
	a, b := file("a", "x", 5), file("b", "y", 6)
	for _, time := range append(rightTimes(), 5) {
		isSet(t, nil, "a", time, []tree.File{file("a", "", time)})
		isSet(t, []tree.File{a, b}, "a", time, []tree.File{file("a", "x", time), b})
		isSet(t, []tree.File{a, b}, "c", time, []tree.File{a, b, file("c", "", time)})
		for _, name := range nearly() {
			isSet(t, []tree.File{a}, name, time, []tree.File{a, file(name, "", time)})
			isSet(t, []tree.File{a, file(name, "z", 3)}, name, time, []tree.File{a, file(name, "z", time)})
		}
	}
	for _, name := range append(nearly(), "a", "c") {
		for _, time := range wrongTimes() {
			isRefused(t, nil, name, time, api.ErrRange)
			isRefused(t, []tree.File{a, b}, name, time, api.ErrRange)
		}
	}
}

func TestSetOfAnArchivesFileLeavesItsMembers(t *testing.T) {
	lib := text(member("x.o", 7, "odd"), member("y.o", 2, ""))
	isSet(t, []tree.File{file("lib.a", lib, 5)}, "lib.a", 9, []tree.File{file("lib.a", lib, 9)})
	isSet(t, []tree.File{file("lib.a", "no archive", 5)}, "lib.a", 9, []tree.File{file("lib.a", "no archive", 9)})
}

func TestSetOfMembers(t *testing.T) {
	x, y, z := member("x.o", 7, "odd"), member("y.o", 2, ""), member("z.o", 3, "even")
	other := file("b", "y", 6)
	for _, time := range append(rightTimes(), 7, 10, 123456) {
		newX := file("lib.a", text(member("x.o", time, "")), time)
		isSet(t, nil, "lib.a(x.o)", time, []tree.File{newX})
		isSet(t, []tree.File{other}, "lib.a(x.o)", time, []tree.File{other, newX})
		isSet(t, []tree.File{file("lib.a", "", 5), other}, "lib.a(x.o)", time, []tree.File{other, newX})
		isSet(t, []tree.File{file("lib.a", start, 5), other}, "lib.a(x.o)", time, []tree.File{other, newX})

		isSet(t, []tree.File{file("lib.a", text(y, z), 5), other}, "lib.a(x.o)", time,
			[]tree.File{other, file("lib.a", text(y, z, member("x.o", time, "")), time)})
		isSet(t, []tree.File{file("lib.a", text(x), 5), other}, "lib.a(x.o)", time,
			[]tree.File{other, file("lib.a", text(member("x.o", time, "odd")), time)})
		isSet(t, []tree.File{file("lib.a", text(y, x, z), 5), other}, "lib.a(x.o)", time,
			[]tree.File{other, file("lib.a", text(y, member("x.o", time, "odd"), z), time)})
		isSet(t, []tree.File{file("lib.a", text(z, y), 5), other}, "lib.a(z.o)", time,
			[]tree.File{other, file("lib.a", text(member("z.o", time, "even"), y), time)})
	}
}

func TestSetOfMembersThatLookOdd(t *testing.T) {
	for name, parts := range map[string][2]string{
		"a(b)": {"a", "b"}, "!(~)": {"!", "~"}, "/(.)": {"/", "."}, "d/lib.a(x.o)": {"d/lib.a", "x.o"}, "x.o(x.o)": {"x.o", "x.o"},
		"lib.a(fifteen--bytes!)":                      {"lib.a", "fifteen--bytes!"},
		strings.Repeat("n", 37) + "(m)":               {strings.Repeat("n", 37), "m"},
		strings.Repeat("n", 23) + "(0123456789abcde)": {strings.Repeat("n", 23), "0123456789abcde"},
	} {
		isSet(t, nil, name, 8, []tree.File{file(parts[0], text(member(parts[1], 8, "")), 8)})
	}
}

func TestSetOfAMemberLeavesAFileOfThatName(t *testing.T) {
	odd := file("lib.a(x.o)", "odd", 9)
	isSet(t, []tree.File{odd}, "lib.a(x.o)", 3, []tree.File{odd, file("lib.a", text(member("x.o", 3, "")), 3)})
	isSet(t, []tree.File{odd, file("lib.a", text(member("x.o", 1, "z")), 4)}, "lib.a(x.o)", 3,
		[]tree.File{odd, file("lib.a", text(member("x.o", 3, "z")), 3)})
}

func TestSetOfWrongTimes(t *testing.T) {
	for _, time := range wrongTimes() {
		for _, content := range []string{"", start, "no archive", text(member("x.o", 7, "odd")), filled()} {
			for _, name := range append(unfit(), "lib.a(x.o)", "lib.a(y.o)") {
				isRefused(t, nil, name, time, api.ErrRange)
				isRefused(t, []tree.File{file("lib.a", content, 5)}, name, time, api.ErrRange)
				isRefused(t, full(file("lib.a", content, 5)), name, time, api.ErrRange)
				isRefused(t, full(), name, time, api.ErrRange)
			}
		}
		for _, name := range noNames() {
			isRefused(t, full(), name, time, api.ErrName)
		}
	}
}

func TestSetOfMembersOfWhatIsNoArchive(t *testing.T) {
	lib := text(member("x.o", 7, "odd"))
	for _, content := range []string{
		"x", "\n", start[:7], start + "\n", lib[1:], lib[:len(lib)-1], lib + "x", lib + lib[len(start):], strings.Replace(lib, "644", "755", 1),
		strings.Repeat("x", api.MaxContent),
	} {
		for _, name := range append(unfit(), "lib.a(x.o)", "lib.a(y.o)") {
			isRefused(t, []tree.File{file("lib.a", content, 5)}, name, 9, api.ErrForm)
			isRefused(t, full(file("lib.a", content, 5)), name, 9, api.ErrForm)
		}
	}
}

func TestSetOfMembersThatAreNotRightForAnArchive(t *testing.T) {
	for _, name := range unfit() {
		isRefused(t, nil, name, 9, api.ErrName)
		isRefused(t, full(), name, 9, api.ErrName)
		for _, content := range []string{"", start, text(member("x.o", 7, "odd")), filled()} {
			isRefused(t, []tree.File{file("lib.a", content, 5)}, name, 9, api.ErrName)
			isRefused(t, full(file("lib.a", content, 5)), name, 9, api.ErrName)
			isRefused(t, []tree.File{file("lib.a", content, 5), file(name, "", 3)}, name, 9, api.ErrName)
		}
	}
}

func TestSetOfNoNames(t *testing.T) {
	for _, name := range noNames() {
		isRefused(t, nil, name, 9, api.ErrName)
		isRefused(t, []tree.File{file("lib.a", text(member("x.o", 7, "")), 5)}, name, 9, api.ErrName)
		isRefused(t, full(), name, 9, api.ErrName)
	}
}

func TestSetInAFullArchive(t *testing.T) {
	lib := file("lib.a", filled(), 5)
	then := text(member("a", 3, "odd"), member("big", 88, strings.Repeat("x", api.MaxContent-len(start)-64-60)))
	for _, name := range []string{"lib.a(x.o)", "lib.a(A)", "lib.a(0)"} {
		isRefused(t, []tree.File{lib}, name, 9, api.ErrLong)
		isRefused(t, full(lib), name, 9, api.ErrLong)
	}
	isSet(t, []tree.File{lib}, "lib.a(big)", 88, []tree.File{file("lib.a", then, 88)})
	isSet(t, full(lib), "lib.a(big)", 88, full(file("lib.a", then, 88)))

	// Sixty bytes are just what a member without a content needs.
	room := strings.Repeat("x", api.MaxContent-len(start)-60-60)
	isSet(t, []tree.File{file("lib.a", text(member("big", 4, room)), 5)}, "lib.a(x.o)", 9,
		[]tree.File{file("lib.a", text(member("big", 4, room), member("x.o", 9, "")), 9)})
	isRefused(t, []tree.File{file("lib.a", text(member("big", 4, room+"x")), 5)}, "lib.a(x.o)", 9, api.ErrLong)
}

func TestSetInAFullTree(t *testing.T) {
	files := full(file("lib.a", text(member("y.o", 2, "")), 5))
	for _, name := range []string{"new", "new(x.o)", "lib(x.o)", "LIB.a(y.o)", "lib.a("} {
		isRefused(t, files, name, 9, api.ErrFull)
		isRefused(t, files, name, 0, api.ErrRange)
	}
	isSet(t, files, "lib.a", 9, full(file("lib.a", text(member("y.o", 2, "")), 9)))
	isSet(t, files, "lib.a(y.o)", 9, full(file("lib.a", text(member("y.o", 9, "")), 9)))
	isSet(t, files, "lib.a(x.o)", 9, full(file("lib.a", text(member("y.o", 2, ""), member("x.o", 9, "")), 9)))
	isSet(t, full(file("e", "", 1)), "e(x.o)", 9, full(file("e", text(member("x.o", 9, "")), 9)))

	isSet(t, files[1:], "new(x.o)", 9, append(slices.Clone(files[1:]), file("new", text(member("x.o", 9, "")), 9)))
}

// P4.1: lists

// some is a tree of names with all kinds of times.
func some(t *testing.T) *tree.Tree {
	lib := text(member("x.o", 7, "odd"), member("y.o", 2, ""), member("z.o", 40, ""))
	return made(t, file("a", "", 5), file("b", "", 7), file("c", "", 7), file("d", "", 1), file("lib.a", lib, 30), file("no.a", "x", 6), file("e(x)", "", 50))
}

func TestNewest(t *testing.T) {
	cases := []struct {
		list []string
		want int
	}{
		{nil, 0},
		{[]string{}, 0},
		{[]string{""}, 0},
		{[]string{"none", "a b", "lib.a(none)", "no.a(x)", "e(x)", "(x)"}, 0},
		{[]string{"a"}, 5},
		{[]string{"d", "none"}, 1},
		{[]string{"none", "d"}, 1},
		{[]string{"a", "b", "c"}, 7},
		{[]string{"b", "a", "d"}, 7},
		{[]string{"d", "b", "a"}, 7},
		{[]string{"a", "a", "a"}, 5},
		{[]string{"a", "lib.a(x.o)", "lib.a(y.o)"}, 7},
		{[]string{"lib.a(z.o)", "lib.a"}, 40},
		{[]string{"lib.a", "lib.a(x.o)"}, 30},
	}
	tr := some(t)
	for _, c := range cases {
		if got := stat.Newest(tr, c.list); got != c.want {
			t.Errorf("Newest(%q) is %d, not %d", c.list, got, c.want)
		}
	}
	if got := stat.Newest(made(t, file("a", "", api.MaxTick)), []string{"a"}); got != api.MaxTick {
		t.Errorf("Newest at MaxTick is %d", got)
	}
}

func TestMissing(t *testing.T) {
	cases := []struct{ list, want []string }{
		{nil, nil},
		{[]string{}, nil},
		{[]string{"a"}, nil},
		{[]string{"a", "d", "lib.a", "lib.a(x.o)", "no.a"}, nil},
		{[]string{"none"}, []string{"none"}},
		{[]string{""}, []string{""}},
		{[]string{"z", "a", "y", "b", "x"}, []string{"z", "y", "x"}},
		{[]string{"z", "z", "a", "a", "z"}, []string{"z", "z", "z"}},
		{[]string{"lib.a(x)", "lib.a(x.o)", "no.a(x)", "none(x)", "e(x)", "lib.a(x/y)"}, []string{"lib.a(x)", "no.a(x)", "none(x)", "e(x)", "lib.a(x/y)"}},
		{[]string{"a b", "a", "\xff", "lib.a()"}, []string{"a b", "\xff", "lib.a()"}},
	}
	tr := some(t)
	for _, c := range cases {
		if got := stat.Missing(tr, c.list); !sameList(got, c.want) {
			t.Errorf("Missing(%q) is %q, not %q", c.list, got, c.want)
		}
	}
	all := []string{"b", "a", "lib.a(x.o)", "b"}
	if got := stat.Missing(tree.New(), all); !sameList(got, all) {
		t.Errorf("Missing(%q) in a tree without files is %q", all, got)
	}
}

func TestNewer(t *testing.T) {
	cases := []struct {
		name       string
		list, want []string
	}{
		{"a", nil, nil},
		{"a", []string{}, nil},
		{"none", nil, nil},
		{"a", []string{"a"}, nil},
		{"b", []string{"c", "b", "lib.a(x.o)"}, nil},
		{"a", []string{"b"}, []string{"b"}},
		{"b", []string{"a"}, nil},
		{"a", []string{"none", "a b", "", "lib.a(none)"}, nil},
		{"none", []string{"none", "other", "e(x)", ""}, nil},
		{"none", []string{"d", "none", "a", "d"}, []string{"d", "a", "d"}},
		{"", []string{"d", "", "lib.a(y.o)"}, []string{"d", "lib.a(y.o)"}},
		{"a b", []string{"d"}, []string{"d"}},
		{"e(x)", []string{"d", "e(x)"}, []string{"d"}},
		{"no.a(x)", []string{"no.a"}, []string{"no.a"}},
		{"a", []string{"lib.a", "c", "none", "d", "b", "a", "lib.a(y.o)", "lib.a(x.o)", "c"}, []string{"lib.a", "c", "b", "lib.a(x.o)", "c"}},
		{"lib.a(x.o)", []string{"a", "b", "lib.a(y.o)", "lib.a(z.o)", "lib.a"}, []string{"lib.a(z.o)", "lib.a"}},
		{"lib.a", []string{"lib.a(x.o)", "lib.a(z.o)"}, []string{"lib.a(z.o)"}},
		{"no.a", []string{"a", "b"}, []string{"b"}},
	}
	tr := some(t)
	for _, c := range cases {
		if got := stat.Newer(tr, c.name, c.list); !sameList(got, c.want) {
			t.Errorf("Newer(%q, %q) is %q, not %q", c.name, c.list, got, c.want)
		}
	}
}

func TestNewerByOne(t *testing.T) {
	for _, time := range []int{2, api.MaxTick - 1} {
		tr := made(t, file("less", "", time-1), file("a", "", time), file("alike", "", time), file("more", "", time+1))
		if got := stat.Newer(tr, "a", []string{"less", "alike", "more"}); !sameList(got, []string{"more"}) {
			t.Errorf("Newer at %d is %q", time, got)
		}
	}
}

// P4.1 and P4.2: every row of calls, held against a world that is written down in another way

// thing is a file of the model: an archive's members, or another content.
type thing struct {
	content string
	members []ar.Member
	isLib   bool
	time    int
}

// world is the model: things by their names.
type world map[string]thing

// called is a name and the parts of it, if it is a member's.
type called struct{ name, lib, member string }

func allNames() []called {
	return []called{
		{"a", "", ""}, {"lib", "", ""}, {"no", "", ""}, {"lib(x)", "lib", "x"}, {"lib(y)", "lib", "y"}, {"new(x)", "new", "x"}, {"no(x)", "no", "x"},
		{"new", "", ""}, {"lib(x", "", ""}, {"lib(x/y)", "lib", "x/y"}, {"a b", "", ""},
	}
}

// of is the time of a name.
func (w world) of(c called) int {
	if c.lib == "" {
		return w[c.name].time
	}
	for _, m := range w[c.lib].members {
		if m.Name == c.member {
			return m.Time
		}
	}
	return 0
}

// set is the world behind Set, and its error.
func (w world) set(c called, time int) (world, error) {
	then := world{}
	for name, f := range w {
		then[name] = f
	}
	if strings.Contains(c.name, " ") {
		return w, api.ErrName
	}
	if time < 1 || time > api.MaxTick {
		return w, api.ErrRange
	}
	if c.lib == "" {
		f := then[c.name]
		f.time = time
		then[c.name] = f
		return then, nil
	}
	f := then[c.lib]
	if !f.isLib && f.content != "" {
		return w, api.ErrForm
	}
	if strings.Contains(c.member, "/") {
		return w, api.ErrName
	}
	list, there := slices.Clone(f.members), false
	for i := range list {
		if list[i].Name == c.member {
			list[i].Time, there = time, true
		}
	}
	if !there {
		list = append(list, member(c.member, time, ""))
	}
	then[c.lib] = thing{members: list, isLib: true, time: time}
	return then, nil
}

// files is the world as files.
func (w world) files() []tree.File {
	var out []tree.File
	for name, f := range w {
		content := f.content
		if f.isLib {
			content = text(f.members...)
		}
		out = append(out, file(name, content, f.time))
	}
	return out
}

// likeWorld holds every answer of a tree against the model.
func likeWorld(t *testing.T, tr *tree.Tree, w world, what string) {
	t.Helper()
	has(t, tr, w.files(), what)
	all := allNames()
	var list, missing []string
	newest := 0
	for _, c := range all {
		isAt(t, tr, c.name, w.of(c))
		list = append(list, c.name)
		newest = max(newest, w.of(c))
		if w.of(c) == 0 {
			missing = append(missing, c.name)
		}
	}
	if got := stat.Newest(tr, list); got != newest {
		t.Errorf("%s: Newest is %d, not %d", what, got, newest)
	}
	if got := stat.Missing(tr, list); !sameList(got, missing) {
		t.Errorf("%s: Missing is %q, not %q", what, got, missing)
	}
	for _, c := range all {
		var newer []string
		for _, other := range all {
			if w.of(other) > w.of(c) {
				newer = append(newer, other.name)
			}
		}
		if got := stat.Newer(tr, c.name, list); !sameList(got, newer) {
			t.Errorf("%s: Newer(%q) is %q, not %q", what, c.name, got, newer)
		}
	}
}

// onlyThat holds the times that were and are against P4.2.
func onlyThat(t *testing.T, before, after *tree.Tree, set called, time int) {
	t.Helper()
	isAt(t, after, set.name, time)
	for _, c := range allNames() {
		// The archive's own file gets that time too: so its function tells.
		if c.name == set.name || set.lib != "" && c.name == set.lib {
			continue
		}
		if got, was := stat.Of(after, c.name), stat.Of(before, c.name); got != was {
			t.Errorf("Set(%q, %d) gives %q %d, not %d", set.name, time, c.name, got, was)
		}
	}
}

// walk makes every row of so many Sets.
func walk(t *testing.T, tr *tree.Tree, w world, row string, deep int) {
	likeWorld(t, tr, w, row)
	if deep == 0 || t.Failed() {
		return
	}
	for _, c := range allNames() {
		for _, time := range []int{0, 1, 9} {
			then, want := w.set(c, time)
			next := tr.Copy()
			err := stat.Set(next, c.name, time)
			if !wants(err, want) {
				t.Errorf("%s, Set(%q, %d): %v, not %v", row, c.name, time, err, want)
			}
			if err == nil {
				onlyThat(t, tr, next, c, time)
			}
			walk(t, next, then, row+", "+c.name+" "+strconv.Itoa(time), deep-1)
		}
	}
}

func TestEveryOrder(t *testing.T) {
	walk(t, tree.New(), world{}, "no files", 2)
	w := world{
		"a":      {content: "x", time: 4},
		"no":     {content: "no archive", time: 5},
		"lib":    {members: []ar.Member{member("z", 3, "odd"), member("x", 6, "yes")}, isLib: true, time: 2},
		"lib(x)": {content: "a file", time: 8},
	}
	walk(t, made(t, w.files()...), w, "four files", 2)
}

// P4.2

func TestSetLeavesTheOtherMembers(t *testing.T) {
	lib := []ar.Member{member("x", 1, "odd"), member("y", 20, ""), member("z", api.MaxTick, "even")}
	for _, m := range lib {
		for _, time := range rightTimes() {
			tr := made(t, file("lib", text(lib...), 5), file("other", text(lib...), 6), file("x", "", 7))
			if err := stat.Set(tr, "lib("+m.Name+")", time); err != nil {
				t.Fatal(err)
			}
			for _, other := range lib {
				want := other.Time
				if other.Name == m.Name {
					want = time
				}
				isAt(t, tr, "lib("+other.Name+")", want)
				isAt(t, tr, "other("+other.Name+")", other.Time)
			}
			isAt(t, tr, "lib", time)
			isAt(t, tr, "other", 6)
			isAt(t, tr, "x", 7)
		}
	}
}

func TestTheExampleOfTheChapter(t *testing.T) {
	tr := tree.New()
	if err := stat.Set(tr, "lib.a(x.o)", 3); err != nil {
		t.Fatal(err)
	}
	has(t, tr, []tree.File{file("lib.a", text(member("x.o", 3, "")), 3)}, "the example")
	isAt(t, tr, "lib.a", 3)
	isAt(t, tr, "lib.a(x.o)", 3)
}

// Rules for every call

func TestReadingChangesNoTree(t *testing.T) {
	tr, kept := some(t), some(t)
	list := []string{"a", "none", "lib.a(x.o)", "lib.a(none)", "none(x)", "no.a(x)", "a b", "", "lib.a(x/y)"}
	for range 3 {
		for _, name := range list {
			stat.Of(tr, name)
			stat.Newer(tr, name, list)
		}
		stat.Newest(tr, list)
		stat.Missing(tr, list)
		if !tree.Same(tr, kept) {
			t.Fatal("reading changes a tree")
		}
	}
}

func TestNoCallChangesAList(t *testing.T) {
	tr := some(t)
	whole := []string{"b", "none", "a", "b", "lib.a(x.o)", "none", "room", "behind"}
	kept := slices.Clone(whole)
	for n := range len(whole) {
		stat.Newest(tr, whole[:n])
		stat.Missing(tr, whole[:n])
		stat.Newer(tr, "d", whole[:n])
		stat.Newer(tr, "none", whole[:n])
	}
	if !slices.Equal(whole, kept) {
		t.Errorf("the list is %q, not %q", whole, kept)
	}
}

func TestAnswersAreTheCallers(t *testing.T) {
	tr := some(t)
	missing, newer := []string{"x", "y", "z"}, []string{"a", "b", "c"}
	for what, ask := range map[string]func() []string{
		"Missing": func() []string { return stat.Missing(tr, missing) },
		"Newer":   func() []string { return stat.Newer(tr, "d", newer) },
	} {
		one, two := ask(), ask()
		want := slices.Clone(one)
		one = one[:cap(one)]
		for i := range one {
			one[i] = "over"
		}
		if !sameList(two, want) || !sameList(ask(), want) {
			t.Errorf("%s: two answers share their room", what)
		}
	}
	if !slices.Equal(missing, []string{"x", "y", "z"}) || !slices.Equal(newer, []string{"a", "b", "c"}) {
		t.Error("an answer shares its room with the list that was given")
	}
}

func TestATreeThatIsNotThere(t *testing.T) {
	list := []string{"a", "lib.a(x.o)", "a b"}
	for _, name := range list {
		isAt(t, nil, name, 0)
	}
	if stat.Newest(nil, list) != 0 || !sameList(stat.Missing(nil, list), list) || len(stat.Newer(nil, "a", list)) != 0 {
		t.Error("a nil tree has files")
	}
	if !wants(stat.Set(nil, "a", 1), api.ErrFull) || !wants(stat.Set(nil, "lib.a(x.o)", 1), api.ErrFull) {
		t.Error("Set in a nil tree")
	}
}

func FuzzSet(f *testing.F) {
	for _, name := range slices.Concat(nearly(), noNames(), unfit(), []string{"lib.a(x.o)", "lib.a", "x"}) {
		f.Add(name, text(member("x.o", 7, "odd")), 9)
		f.Add(name, "", api.MaxTick+1)
	}
	f.Fuzz(func(t *testing.T, name, content string, time int) {
		if len(content) > api.MaxContent {
			return
		}
		tr := made(t, file("lib.a", content, 5))
		kept := tr.Copy()
		if err := stat.Set(tr, name, time); err != nil {
			if !tree.Same(tr, kept) {
				t.Errorf("Set(%q, %d): %v, and changes the tree", name, time, err)
			}
			return
		}
		isAt(t, tr, name, time)
		if time < 1 || time > api.MaxTick {
			t.Errorf("Set(%q, %d) is taken", name, time)
		}
	})
}
