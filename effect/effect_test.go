package effect_test

import (
	"errors"
	"math"
	"slices"
	"strconv"
	"strings"
	"testing"

	"millwright/api"
	"millwright/ar"
	"millwright/effect"
	"millwright/stat"
	"millwright/tree"
)

const start = "!<arch>\n"

// member is short for a member.
func member(name string, time int, content string) ar.Member {
	return ar.Member{Name: name, Time: time, Content: content}
}

// text is the archive that layer 3's words tell of right members.
func text(list ...ar.Member) string {
	s := start
	for _, m := range list {
		s += wide(m.Name, 16) + wide(strconv.Itoa(m.Time), 12) + "0     0     644     "
		s += wide(strconv.Itoa(len(m.Content)), 10) + "`\n" + m.Content
		if len(m.Content)%2 == 1 {
			s += "\n"
		}
	}
	return s
}

// wide is a text with blanks behind it, up to that many bytes.
func wide(s string, bytes int) string { return s + strings.Repeat(" ", bytes-len(s)) }

// file is short for a file.
func file(name, content string, time int) tree.File {
	return tree.File{Name: name, Content: content, Time: time}
}

// write, touch and remove are short for effects.
func write(name, text string) effect.Effect {
	return effect.Effect{Op: effect.Write, Name: name, Text: text}
}

func touch(name string) effect.Effect { return effect.Effect{Op: effect.Touch, Name: name} }

func remove(name string) effect.Effect { return effect.Effect{Op: effect.Remove, Name: name} }

// row is short for a list of effects.
func row(list ...effect.Effect) []effect.Effect { return list }

// made is the tree of files that must be right.
func made(t *testing.T, list ...tree.File) *tree.Tree {
	t.Helper()
	out, err := tree.Of(list)
	if err != nil {
		t.Fatalf("Of(%v): %v", list, err)
	}
	return out
}

// full is as many files as a tree may have, those of a list among them.
func full(list ...tree.File) []tree.File {
	out := slices.Clone(list)
	for i := len(list); i < api.MaxFiles; i++ {
		out = append(out, file("f"+strconv.Itoa(i), "c", i+1))
	}
	return out
}

// filled is an archive of just MaxContent bytes, with the one member big.
func filled() string {
	s := text(member("big", 4, strings.Repeat("x", api.MaxContent-len(start)-60)))
	if len(s) != api.MaxContent {
		panic("not filled")
	}
	return s
}

func sameList[T comparable](a, b []T) bool {
	return len(a) == len(b) && (len(a) == 0 || slices.Equal(a, b))
}

// wants tells whether an error is the one that is wanted (nil: none).
func wants(err, want error) bool {
	if want == nil {
		return err == nil
	}
	return err != nil && errors.Is(err, want)
}

// has holds a tree's files against a list, in any order.
func has(t *testing.T, tr *tree.Tree, files []tree.File, what string) {
	t.Helper()
	if !tree.Same(tr, made(t, files...)) {
		t.Errorf("%s: the tree has %v, not %v", what, tr.Files(), files)
	}
}

// isDone holds Do in a tree of files against the files that there should be then.
func isDone(t *testing.T, files []tree.File, tick int, e effect.Effect, then []tree.File) {
	t.Helper()
	tr := made(t, files...)
	if err := effect.Do(tr, tick, e); err != nil {
		t.Errorf("Do(%d, %v): %v", tick, e, err)
	}
	has(t, tr, then, "Do of "+e.Name)
}

// isRefused holds Do against an error that leaves the tree as it was.
func isRefused(t *testing.T, files []tree.File, tick int, e effect.Effect, want error) {
	t.Helper()
	tr := made(t, files...)
	if err := effect.Do(tr, tick, e); !wants(err, want) {
		t.Errorf("Do(%d, %v): %v, not %v", tick, e, err, want)
	}
	has(t, tr, files, "Do of "+e.Name+" with an error")
}

func wrongTicks() []int { return []int{0, -1, math.MinInt, api.MaxTick + 1, math.MaxInt} }

func rightTicks() []int { return []int{1, 2, api.MaxTick - 1, api.MaxTick} }

func rightOps() []int { return []int{effect.Write, effect.Touch, effect.Remove} }

func wrongOps() []int { return []int{0, 4, 5, -1, -2, -3, 257, math.MinInt, math.MaxInt} }

// members is members' names that are right for an archive too.
func members() []string {
	return []string{"lib.a(x.o)", "l(m)", "d/l(m)", "!(~)", "/(.)", "lib.a(fifteen--bytes!)", strings.Repeat("n", 37) + "(m)"}
}

// unfit is members' names (layer 1), by the names of members that are not right for an archive (layer 3).
func unfit() []string {
	return []string{"lib.a(sixteen---bytes!)", "lib.a(x/y)", "lib.a(/)", "lib.a(x/)", "lib.a(" + strings.Repeat("x", api.MaxName-7) + ")"}
}

// nearly is right names that are no member's name, though they look like one.
func nearly() []string {
	return []string{
		"lib.a(x.o", "lib.ax.o)", "lib.a()", "(x.o)", "()", "(", ")", "lib.a(", "lib.a)",
		"lib.a(x.o)z", "lib.a(x.o))", "lib.a((x.o)", "lib.a(x)(x.o)", "lib.a(x.o)(", "lib.a)x.o(", ")lib.a(x.o)",
		"lib.a[x.o]", "lib.a{x.o}", "lib.a(x)o)", "lib.a(x(o)", "x.o", "lib.a/x.o", "~", "!", strings.Repeat("n", api.MaxName),
	}
}

// noNames is texts that are no names, nor members' names.
func noNames() []string {
	return []string{
		"", " ", "a b", "lib.a (x.o)", "lib.a( x.o)", "lib.a(x.o )", "lib.a(x.o) ", " lib.a(x.o)", "lib.a(x.o)\n", "lib.a(\x00)",
		"lib.a(\u00e9)", "\xff(x.o)", "lib.a(x\x7f)", "lib.a(" + strings.Repeat("x", api.MaxName+1-7) + ")", strings.Repeat("n", api.MaxName+1),
	}
}

// P5.1: the kinds, and Check

func TestKinds(t *testing.T) {
	if effect.Write != 1 || effect.Touch != 2 || effect.Remove != 3 {
		t.Errorf("the kinds are %d, %d, %d", effect.Write, effect.Touch, effect.Remove)
	}
}

// isChecked holds Check against an error (nil: none).
func isChecked(t *testing.T, e effect.Effect, want error) {
	t.Helper()
	if err := effect.Check(e); !wants(err, want) {
		t.Errorf("Check(%v): %v, not %v", e, err, want)
	}
}

func TestCheckOfOtherKinds(t *testing.T) {
	for _, op := range wrongOps() {
		for _, name := range slices.Concat(members(), unfit(), nearly(), noNames()) {
			for _, text := range []string{"", "x", "\x00", strings.Repeat("x", api.MaxContent+1)} {
				isChecked(t, effect.Effect{Op: op, Name: name, Text: text}, api.ErrKind)
			}
		}
	}
	isChecked(t, effect.Effect{}, api.ErrKind)
}

func TestCheckOfMembers(t *testing.T) {
	for _, name := range append(members(), unfit()...) {
		isChecked(t, touch(name), nil)
		isChecked(t, write(name, ""), api.ErrKind)
		isChecked(t, write(name, "x"), api.ErrKind)
		isChecked(t, remove(name), api.ErrKind)
		// The kind is looked at ahead of the text.
		isChecked(t, effect.Effect{Op: effect.Remove, Name: name, Text: "x"}, api.ErrKind)
		isChecked(t, effect.Effect{Op: effect.Touch, Name: name, Text: "x"}, api.ErrForm)
	}
}

func TestCheckOfOtherNames(t *testing.T) {
	for _, name := range append(nearly(), noNames()...) {
		for _, text := range []string{"x", " ", "\n", "\x00", strings.Repeat("x", api.MaxContent), strings.Repeat("x", api.MaxContent+1)} {
			isChecked(t, write(name, text), nil)
			isChecked(t, effect.Effect{Op: effect.Touch, Name: name, Text: text}, api.ErrForm)
			isChecked(t, effect.Effect{Op: effect.Remove, Name: name, Text: text}, api.ErrForm)
		}
		isChecked(t, write(name, ""), nil)
		isChecked(t, touch(name), nil)
		isChecked(t, remove(name), nil)
	}
}

// P5.1: Do of a Write

func TestDoWrite(t *testing.T) {
	a, b := file("a", "x", 5), file("b", "y", 6)
	for _, content := range []string{"", "new", "\x00\xff\n", start, strings.Repeat("x", api.MaxContent)} {
		for _, tick := range append(rightTicks(), 5) {
			isDone(t, nil, tick, write("a", content), []tree.File{file("a", content, tick)})
			isDone(t, []tree.File{a, b}, tick, write("a", content), []tree.File{file("a", content, tick), b})
			isDone(t, []tree.File{a, b}, tick, write("c", content), []tree.File{a, b, file("c", content, tick)})
			isDone(t, full(a), tick, write("a", content), full(file("a", content, tick)))
		}
		for _, name := range nearly() {
			isDone(t, []tree.File{a}, 9, write(name, content), []tree.File{a, file(name, content, 9)})
		}
	}
}

func TestDoWriteOfAnArchive(t *testing.T) {
	old, lib := text(member("x.o", 7, "odd")), text(member("y.o", 2, ""))
	isDone(t, []tree.File{file("lib.a", old, 5)}, 9, write("lib.a", lib), []tree.File{file("lib.a", lib, 9)})
	isDone(t, []tree.File{file("lib.a", old, 5)}, 9, write("lib.a", ""), []tree.File{file("lib.a", "", 9)})
}

func TestDoWriteWithErrors(t *testing.T) {
	long := strings.Repeat("x", api.MaxContent+1)
	a := file("a", "x", 5)
	for _, tick := range append(wrongTicks(), 1, api.MaxTick) {
		for _, name := range members() {
			isRefused(t, full(a), tick, write(name, long), api.ErrKind)
			isRefused(t, []tree.File{file(name, "x", 5)}, tick, write(name, "y"), api.ErrKind)
		}
		for _, name := range noNames() {
			isRefused(t, full(a), tick, write(name, long), api.ErrName)
			isRefused(t, nil, tick, write(name, ""), api.ErrName)
		}
		for _, files := range [][]tree.File{nil, {a}, full(a), full()} {
			isRefused(t, files, tick, write("a", long), api.ErrLong)
		}
	}
	for _, tick := range wrongTicks() {
		for _, files := range [][]tree.File{nil, {a}, full(a), full()} {
			isRefused(t, files, tick, write("a", "y"), api.ErrRange)
		}
	}
	isRefused(t, full(), 1, write("a", ""), api.ErrFull)
	isRefused(t, full(), api.MaxTick, write("a", "y"), api.ErrFull)
}

// P5.1: Do of a Touch

func TestDoTouchOfAFile(t *testing.T) {
	a, b := file("a", "x", 5), file("b", "y", 6)
	for _, tick := range append(rightTicks(), 5) {
		isDone(t, nil, tick, touch("a"), []tree.File{file("a", "", tick)})
		isDone(t, []tree.File{a, b}, tick, touch("a"), []tree.File{file("a", "x", tick), b})
		isDone(t, []tree.File{a, b}, tick, touch("c"), []tree.File{a, b, file("c", "", tick)})
		isDone(t, full(a), tick, touch("a"), full(file("a", "x", tick)))
		isRefused(t, full(), tick, touch("a"), api.ErrFull)
		for _, name := range nearly() {
			isDone(t, []tree.File{file(name, "z", 3)}, tick, touch(name), []tree.File{file(name, "z", tick)})
		}
		for _, name := range noNames() {
			isRefused(t, full(), tick, touch(name), api.ErrName)
		}
	}
	for _, tick := range wrongTicks() {
		for _, files := range [][]tree.File{nil, {a}, full(a), full()} {
			isRefused(t, files, tick, touch("a"), api.ErrRange)
		}
		for _, name := range noNames() {
			isRefused(t, full(), tick, touch(name), api.ErrName)
		}
	}
}

func TestDoTouchOfAMember(t *testing.T) {
	x, y := member("x.o", 7, "odd"), member("y.o", 2, "")
	b := file("b", "y", 6)
	for _, tick := range append(rightTicks(), 7) {
		first := file("lib.a", text(member("x.o", tick, "")), tick)
		isDone(t, nil, tick, touch("lib.a(x.o)"), []tree.File{first})
		isDone(t, []tree.File{b, file("lib.a", "", 5)}, tick, touch("lib.a(x.o)"), []tree.File{b, first})
		isDone(t, []tree.File{b, file("lib.a", start, 5)}, tick, touch("lib.a(x.o)"), []tree.File{b, first})
		isDone(t, []tree.File{b, file("lib.a", text(y), 5)}, tick, touch("lib.a(x.o)"),
			[]tree.File{b, file("lib.a", text(y, member("x.o", tick, "")), tick)})
		isDone(t, []tree.File{b, file("lib.a", text(x, y), 5)}, tick, touch("lib.a(x.o)"),
			[]tree.File{b, file("lib.a", text(member("x.o", tick, "odd"), y), tick)})
		isDone(t, full(file("lib.a", text(x, y), 5)), tick, touch("lib.a(y.o)"),
			full(file("lib.a", text(x, member("y.o", tick, "")), tick)))
	}
	odd := file("lib.a(x.o)", "a file", 9)
	isDone(t, []tree.File{odd}, 3, touch("lib.a(x.o)"), []tree.File{odd, file("lib.a", text(member("x.o", 3, "")), 3)})
}

func TestDoTouchOfAMemberWithErrors(t *testing.T) {
	lib := text(member("x.o", 7, "odd"))
	for _, tick := range rightTicks() {
		for _, content := range []string{"x", start[:7], lib[1:], lib[:len(lib)-1], lib + "\n", strings.Repeat("x", api.MaxContent)} {
			isRefused(t, full(file("lib.a", content, 5)), tick, touch("lib.a(x.o)"), api.ErrForm)
			isRefused(t, []tree.File{file("lib.a", content, 5)}, tick, touch("lib.a(x/y)"), api.ErrForm)
		}
		for _, name := range unfit() {
			isRefused(t, full(), tick, touch(name), api.ErrName)
			isRefused(t, []tree.File{file("lib.a", filled(), 5)}, tick, touch(name), api.ErrName)
		}
		isRefused(t, full(file("lib.a", filled(), 5)), tick, touch("lib.a(x.o)"), api.ErrLong)
		isRefused(t, full(), tick, touch("lib.a(x.o)"), api.ErrFull)
	}
	for _, tick := range wrongTicks() {
		for _, content := range []string{"", "x", lib, filled()} {
			for _, name := range append(unfit(), "lib.a(x.o)") {
				isRefused(t, full(file("lib.a", content, 5)), tick, touch(name), api.ErrRange)
			}
		}
		isRefused(t, full(), tick, touch("lib.a(x.o)"), api.ErrRange)
		isRefused(t, nil, tick, touch("lib.a(x.o)"), api.ErrRange)
	}
}

// P5.1: Do of a Remove

func TestDoRemove(t *testing.T) {
	a, b := file("a", "x", 5), file("b", "y", 6)
	// A Remove gives nothing a time: so any tick will do.
	for _, tick := range append(rightTicks(), wrongTicks()...) {
		isDone(t, []tree.File{a}, tick, remove("a"), nil)
		isDone(t, []tree.File{a, b}, tick, remove("a"), []tree.File{b})
		isDone(t, full(a), tick, remove("a"), full(a)[1:])
		for _, name := range nearly() {
			isDone(t, []tree.File{a, file(name, "z", 3)}, tick, remove(name), []tree.File{a})
		}
		for _, name := range slices.Concat(nearly(), noNames(), []string{"A", "aa", "c"}) {
			isRefused(t, nil, tick, remove(name), api.ErrNone)
			isRefused(t, []tree.File{a, b}, tick, remove(name), api.ErrNone)
		}
		for _, name := range append(members(), unfit()...) {
			isRefused(t, []tree.File{a, file(name, "a file", 3)}, tick, remove(name), api.ErrKind)
		}
	}
}

func TestDoOfWhatCheckRefuses(t *testing.T) {
	lib, odd := file("lib.a", text(member("x.o", 7, "odd")), 5), file("lib.a(x.o)", "odd", 9)
	for _, files := range [][]tree.File{nil, {lib, odd}, full(lib), full(odd)} {
		for _, tick := range []int{0, 1, api.MaxTick, api.MaxTick + 1} {
			for _, name := range []string{"lib.a", "none", "lib.a(x.o)", "lib.a(x/y)", "a b", ""} {
				for _, op := range wrongOps() {
					isRefused(t, files, tick, effect.Effect{Op: op, Name: name}, api.ErrKind)
					isRefused(t, files, tick, effect.Effect{Op: op, Name: name, Text: "x"}, api.ErrKind)
				}
				isRefused(t, files, tick, effect.Effect{Op: effect.Touch, Name: name, Text: "x"}, api.ErrForm)
			}
			for _, name := range []string{"lib.a", "none", "a b", ""} {
				isRefused(t, files, tick, effect.Effect{Op: effect.Remove, Name: name, Text: "x"}, api.ErrForm)
			}
		}
	}
}

// P5.1: Apply

// isApplied holds Apply in a tree of files against how many are done, the error, and the files that there should be then.
func isApplied(t *testing.T, files []tree.File, tick int, list []effect.Effect, done int, want error, then []tree.File) {
	t.Helper()
	tr := made(t, files...)
	n, err := effect.Apply(tr, tick, list)
	if n != done || !wants(err, want) {
		t.Errorf("Apply(%d, %v): %d, %v, not %d, %v", tick, list, n, err, done, want)
	}
	has(t, tr, then, "Apply")
}

func TestApplyWithoutErrors(t *testing.T) {
	a, b := file("a", "x", 5), file("b", "y", 6)
	both := []tree.File{a, b}
	for _, tick := range append(rightTicks(), wrongTicks()...) {
		isApplied(t, both, tick, nil, 0, nil, both)
		isApplied(t, both, tick, row(), 0, nil, both)
		isApplied(t, both, tick, row(remove("a"), remove("b")), 2, nil, nil)
	}
	for _, tick := range rightTicks() {
		isApplied(t, both, tick, row(touch("a")), 1, nil, []tree.File{file("a", "x", tick), b})
		isApplied(t, both, tick, row(touch("a"), write("b", "z"), write("c", "")), 3, nil,
			[]tree.File{file("a", "x", tick), file("b", "z", tick), file("c", "", tick)})
	}
}

func TestApplyIsInOrder(t *testing.T) {
	a := []tree.File{file("a", "x", 5)}
	isApplied(t, a, 9, row(write("a", "one"), write("a", "two")), 2, nil, []tree.File{file("a", "two", 9)})
	isApplied(t, a, 9, row(write("a", "two"), write("a", "one")), 2, nil, []tree.File{file("a", "one", 9)})
	isApplied(t, a, 9, row(write("b", "y"), touch("b"), remove("b")), 3, nil, a)
	isApplied(t, a, 9, row(remove("a"), touch("a")), 2, nil, []tree.File{file("a", "", 9)})
	isApplied(t, a, 9, row(touch("a"), remove("a")), 2, nil, nil)
	isApplied(t, a, 9, row(remove("a"), remove("a")), 1, api.ErrNone, nil)
	isApplied(t, a, 9, row(touch("l(x)"), touch("l(y)"), touch("l(x)")), 3, nil,
		append(a, file("l", text(member("x", 9, ""), member("y", 9, "")), 9)))
	isApplied(t, a, 9, row(touch("l(x)"), write("l", "no archive"), touch("l(x)")), 2, api.ErrForm, append(a, file("l", "no archive", 9)))
	isApplied(t, a, 9, row(touch("l(x)"), remove("l")), 2, nil, a)
}

func TestApplyMakesRoomInOrder(t *testing.T) {
	a := file("a", "x", 5)
	isApplied(t, full(a), 9, row(remove("a"), write("b", "y")), 2, nil, full(file("b", "y", 9)))
	isApplied(t, full(a), 9, row(write("b", "y"), remove("a")), 0, api.ErrFull, full(a))
}

func TestApplyStopsAtTheFirstError(t *testing.T) {
	a, b := file("a", "x", 5), file("b", "y", 6)
	wrong := []struct {
		e    effect.Effect
		want error
	}{
		{effect.Effect{}, api.ErrKind},
		{effect.Effect{Op: 4, Name: "a"}, api.ErrKind},
		{write("l(m)", ""), api.ErrKind},
		{remove("l(m)"), api.ErrKind},
		{effect.Effect{Op: effect.Touch, Name: "a", Text: "x"}, api.ErrForm},
		{effect.Effect{Op: effect.Remove, Name: "b", Text: "x"}, api.ErrForm},
		{touch("b(m)"), api.ErrForm},
		{write("a b", ""), api.ErrName},
		{touch(""), api.ErrName},
		{touch("l(m/n)"), api.ErrName},
		{write("a", strings.Repeat("x", api.MaxContent+1)), api.ErrLong},
		{remove("none"), api.ErrNone},
	}
	newA, c := file("a", "new", 9), file("c", "z", 9)
	for _, w := range wrong {
		for _, other := range wrong {
			isApplied(t, []tree.File{a, b}, 9, row(w.e), 0, w.want, []tree.File{a, b})
			isApplied(t, []tree.File{a, b}, 9, row(w.e, write("a", "new"), other.e, write("c", "z")), 0, w.want, []tree.File{a, b})
			isApplied(t, []tree.File{a, b}, 9, row(write("a", "new"), w.e, write("c", "z")), 1, w.want, []tree.File{newA, b})
			isApplied(t, []tree.File{a, b}, 9, row(write("a", "new"), w.e, other.e), 1, w.want, []tree.File{newA, b})
			isApplied(t, []tree.File{a, b}, 9, row(write("a", "new"), write("c", "z"), w.e), 2, w.want, []tree.File{newA, b, c})
		}
	}
	for _, tick := range wrongTicks() {
		isApplied(t, []tree.File{a, b}, tick, row(remove("b"), touch("a"), remove("a")), 1, api.ErrRange, []tree.File{a})
	}
}

func TestApplyFillsTheTree(t *testing.T) {
	var list []effect.Effect
	var then []tree.File
	for i := range api.MaxFiles {
		name := "n" + strconv.Itoa(i)
		list = append(list, touch(name))
		then = append(then, file(name, "", 9))
	}
	isApplied(t, nil, 9, list, api.MaxFiles, nil, then)
	isApplied(t, nil, 9, append(list, write("one-more", ""), remove("n0")), api.MaxFiles, api.ErrFull, then)
}

// P5.1: Names, Own and Touches

func TestNames(t *testing.T) {
	cases := []struct {
		list []effect.Effect
		want []string
	}{
		{nil, nil},
		{row(), nil},
		{row(touch("a")), []string{"a"}},
		{row(effect.Effect{}), []string{""}},
		{row(touch("b"), touch("a")), []string{"a", "b"}},
		{row(touch("a"), touch("a"), touch("a")), []string{"a"}},
		{row(write("b", "x"), remove("a"), touch("b"), remove("b"), touch("a")), []string{"a", "b"}},
		{row(touch("l(m)"), touch("l"), write("l(a)", ""), touch("L")), []string{"L", "l", "l(a)", "l(m)"}},
		{row(effect.Effect{Op: 4, Name: "kind"}, write("a b", ""), write("", ""), remove("\xff"), effect.Effect{Op: -1, Name: "kind"}), []string{"", "a b", "kind", "\xff"}},
		{row(touch("a10"), touch("a9"), touch("B"), touch("a"), touch("a1")), []string{"B", "a", "a1", "a10", "a9"}},
	}
	for _, c := range cases {
		if got := effect.Names(c.list); !sameList(got, c.want) {
			t.Errorf("Names(%v) is %q, not %q", c.list, got, c.want)
		}
	}
}

func TestOwn(t *testing.T) {
	cases := []struct {
		list    []effect.Effect
		targets []string
		want    bool
	}{
		{nil, nil, true},
		{row(), []string{}, true},
		{nil, []string{"a"}, true},
		{row(touch("a")), nil, false},
		{row(touch("a")), []string{"a"}, true},
		{row(touch("a")), []string{"b"}, false},
		{row(touch("a")), []string{"b", "a", "c", "a"}, true},
		{row(touch("a"), write("b", "x")), []string{"b", "a"}, true},
		{row(touch("a"), write("b", "x")), []string{"b"}, false},
		{row(touch("a"), write("b", "x")), []string{"a"}, false},
		{row(touch("a"), remove("z"), write("b", "x")), []string{"a", "b"}, false},
		{row(touch("a"), write("a", "x"), remove("a")), []string{"a"}, true},
		{row(touch("l(m)")), []string{"l"}, false},
		{row(touch("l")), []string{"l(m)"}, false},
		{row(touch("l(m)"), touch("l(n)")), []string{"l(m)"}, false},
		{row(touch("l(m)")), []string{"l(m)"}, true},
		{row(touch("a")), []string{"A", "aa", "a ", ""}, false},
		{row(effect.Effect{}), nil, false},
		{row(effect.Effect{}), []string{""}, true},
		{row(effect.Effect{Op: 4, Name: "a", Text: "x"}, write("a b", "")), []string{"a b", "a"}, true},
		{row(effect.Effect{Op: 4, Name: "a", Text: "x"}, write("a b", "")), []string{"a"}, false},
	}
	for _, c := range cases {
		if got := effect.Own(c.list, c.targets); got != c.want {
			t.Errorf("Own(%v, %q) is %t", c.list, c.targets, got)
		}
	}
}

func TestTouches(t *testing.T) {
	cases := [][]string{
		nil, {}, {"a"}, {"b", "a"}, {"a", "a"}, {"c", "a", "b", "a", "c"}, {"l(m)", "l", "l(m/n)"}, {"", "a b", "\xff", "lib.a("},
	}
	for _, targets := range cases {
		var want []effect.Effect
		for _, name := range targets {
			want = append(want, effect.Effect{Op: 2, Name: name, Text: ""})
		}
		got := effect.Touches(targets)
		if !sameList(got, want) {
			t.Errorf("Touches(%q) is %v, not %v", targets, got, want)
		}
		if !effect.Own(got, targets) {
			t.Errorf("Touches(%q) are not its own", targets)
		}
	}
}

func TestTouchesAreDone(t *testing.T) {
	tr := made(t, file("a", "x", 5), file("b", "y", 6))
	n, err := effect.Apply(tr, 9, effect.Touches([]string{"l(m)", "a", "new", "a"}))
	if n != 4 || err != nil {
		t.Fatalf("Apply: %d, %v", n, err)
	}
	has(t, tr, []tree.File{file("a", "x", 9), file("b", "y", 6), file("l", text(member("m", 9, "")), 9), file("new", "", 9)}, "touches")
}

// P5.1 and P5.2: every row of effects, held against a world that is written down in another way

// thing is a file of the model: an archive's members, or another content.
type thing struct {
	content string
	members []ar.Member
	isLib   bool
	time    int
}

// world is the model: things by their names.
type world map[string]thing

// called is a name and the parts of it, if it is a member's; wrong tells that it is no name at all.
type called struct {
	name, lib, member string
	wrong             bool
}

func allNames() []called {
	return []called{
		{name: "a"}, {name: "lib"}, {name: "none"}, {name: "lib(x"}, {name: "a b", wrong: true},
		{name: "lib(x)", lib: "lib", member: "x"}, {name: "none(x)", lib: "none", member: "x"}, {name: "a(x)", lib: "a", member: "x"}, {name: "lib(x/y)", lib: "lib", member: "x/y"},
	}
}

// with is the world in which a name is that thing.
func (w world) with(name string, is thing) world {
	then := w.without(name)
	then[name] = is
	return then
}

// without is the world in which a name is nothing.
func (w world) without(name string) world {
	then := world{}
	for other, is := range w {
		if other != name {
			then[other] = is
		}
	}
	return then
}

// do is the world behind an effect, and its error.
func (w world) do(tick, op int, c called, text string) (world, error) {
	timely := tick >= 1 && tick <= api.MaxTick
	_, there := w[c.name]
	switch {
	case op != 1 && op != 2 && op != 3, c.lib != "" && (op == 1 || op == 3):
		return w, api.ErrKind
	case op != 1 && text != "":
		return w, api.ErrForm
	case op == 3 && !there:
		return w, api.ErrNone
	case op == 3:
		return w.without(c.name), nil
	case c.wrong:
		return w, api.ErrName
	case !timely:
		return w, api.ErrRange
	case op == 1:
		return w.with(c.name, thing{content: text, time: tick}), nil
	case c.lib == "":
		is := w[c.name]
		is.time = tick
		return w.with(c.name, is), nil
	}
	return w.touchMember(tick, c)
}

// touchMember is the world behind a Touch of a member at a right tick, and its error.
func (w world) touchMember(tick int, c called) (world, error) {
	lib := w[c.lib]
	if !lib.isLib && lib.content != "" {
		return w, api.ErrForm
	}
	if strings.Contains(c.member, "/") {
		return w, api.ErrName
	}
	list, there := slices.Clone(lib.members), false
	for i := range list {
		if list[i].Name == c.member {
			list[i].Time, there = tick, true
		}
	}
	if !there {
		list = append(list, member(c.member, tick, ""))
	}
	return w.with(c.lib, thing{members: list, isLib: true, time: tick}), nil
}

// files is the world as files.
func (w world) files() []tree.File {
	var out []tree.File
	for name, f := range w {
		content := f.content
		if f.isLib {
			content = text(f.members...)
		}
		out = append(out, file(name, content, f.time))
	}
	return out
}

// step is an effect by its parts.
type step struct {
	op   int
	c    called
	text string
}

func (s step) effect() effect.Effect { return effect.Effect{Op: s.op, Name: s.c.name, Text: s.text} }

// allSteps is every effect of these kinds, names and texts.
func allSteps(ops []int, names []called, texts []string) []step {
	var out []step
	for _, op := range ops {
		for _, c := range names {
			for _, text := range texts {
				out = append(out, step{op: op, c: c, text: text})
			}
		}
	}
	return out
}

// worlds is what rows of effects begin with.
func worlds() []world {
	return []world{
		{},
		{
			"a":      {content: "x", time: 4},
			"lib":    {members: []ar.Member{member("z", 3, "odd"), member("x", 6, "yes")}, isLib: true, time: 2},
			"lib(x)": {content: "a file", time: 8},
		},
	}
}

// walk makes every row of so many effects, one call of Do behind the other, and all of them by Apply.
func walk(t *testing.T, first, w world, tick int, so []effect.Effect, steps []step, deep int) {
	t.Helper()
	if deep == 0 {
		return
	}
	for _, s := range steps {
		list := append(slices.Clone(so), s.effect())
		tr, all := made(t, w.files()...), made(t, first.files()...)
		then, want := w.do(tick, s.op, s.c, s.text)
		if err := effect.Do(tr, tick, s.effect()); !wants(err, want) {
			t.Fatalf("Do(%d, %v) behind %v: %v, not %v", tick, s.effect(), so, err, want)
		}
		has(t, tr, then.files(), "Do behind a row")
		// Behind an error Apply does nothing more: the effect that follows must not be seen.
		behind, wantDone := row(list...), len(list)
		if want != nil {
			behind, wantDone = append(behind, write("behind", "x")), len(list)-1
		}
		n, err := effect.Apply(all, tick, behind)
		if n != wantDone || !wants(err, want) {
			t.Fatalf("Apply(%d, %v): %d, %v, not %d, %v", tick, behind, n, err, wantDone, want)
		}
		has(t, all, then.files(), "Apply of a row")
		if t.Failed() {
			t.Fatalf("at tick %d: %v", tick, list)
		}
		if want == nil {
			walk(t, first, then, tick, list, steps, deep-1)
		}
	}
}

func TestEveryRow(t *testing.T) {
	every := allSteps([]int{0, 1, 2, 3, 4, -1}, allNames(), []string{"", "y"})
	some := allSteps(rightOps(), allNames()[:6], []string{""})
	for _, w := range worlds() {
		for _, tick := range []int{0, 1, 9, api.MaxTick, api.MaxTick + 1} {
			walk(t, w, w, tick, nil, every, 2)
		}
		walk(t, w, w, 7, nil, some, 3)
	}
}

// P5.2

// mayChange is the files that effects of these names may change: the archives of members that are touched too.
func mayChange(list []effect.Effect, all []called) []string {
	var out []string
	for _, e := range list {
		out = append(out, e.Name)
		for _, c := range all {
			if c.name == e.Name && c.lib != "" {
				out = append(out, c.lib)
			}
		}
	}
	return out
}

func TestOwnEffectsLeaveAllOtherFiles(t *testing.T) {
	all := allNames()
	steps := allSteps(rightOps(), all, []string{"", "y"})
	for _, w := range worlds() {
		for _, one := range steps {
			for _, two := range steps {
				list := row(one.effect(), two.effect())
				if !effect.Own(list, []string{two.c.name, one.c.name}) || effect.Own(list, nil) || one.c != two.c && effect.Own(list, []string{one.c.name}) {
					t.Fatalf("Own of %v", list)
				}
				tr := made(t, w.files()...)
				before := tr.Copy()
				effect.Apply(tr, 9, list)
				othersStay(t, before, tr, mayChange(list, all))
			}
		}
	}
}

// othersStay holds all files but some against what they were.
func othersStay(t *testing.T, before, after *tree.Tree, but []string) {
	t.Helper()
	for _, name := range append(before.Names(), after.Names()...) {
		was, wasThere := before.Get(name)
		is, isThere := after.Get(name)
		if !slices.Contains(but, name) && (was != is || wasThere != isThere) {
			t.Errorf("%s is %v, not %v", name, is, was)
		}
	}
}

func TestATouchOfAMemberLeavesTheOtherMembers(t *testing.T) {
	list := []ar.Member{member("x", 1, "odd"), member("y", 20, ""), member("z", api.MaxTick, "even")}
	tr := made(t, file("lib", text(list...), 5), file("other", text(list...), 6))
	if n, err := effect.Apply(tr, 9, effect.Touches([]string{"lib(y)"})); n != 1 || err != nil {
		t.Fatalf("Apply: %d, %v", n, err)
	}
	for name, want := range map[string]int{"lib(x)": 1, "lib(y)": 9, "lib(z)": api.MaxTick, "lib": 9, "other(y)": 20, "other": 6} {
		if got := stat.Of(tr, name); got != want {
			t.Errorf("%s has the time %d, not %d", name, got, want)
		}
	}
	has(t, tr, []tree.File{file("lib", text(list[0], member("y", 9, ""), list[2]), 9), file("other", text(list...), 6)}, "touches")
}

func TestTheExampleOfTheChapter(t *testing.T) {
	isDone(t, nil, 12, write("a", "x"), []tree.File{file("a", "x", 12)})
}

// Rules for every call

func TestOnlyDoAndApplyChangeATree(t *testing.T) {
	files := []tree.File{file("a", "x", 5), file("b", "y", 6)}
	tr := made(t, files...)
	list := row(write("a", "new"), remove("b"), touch("c"), touch("l(m)"))
	for _, e := range list {
		effect.Check(e)
	}
	effect.Names(list)
	effect.Own(list, []string{"a", "b"})
	effect.Touches([]string{"a", "b", "c"})
	has(t, tr, files, "the other calls")
}

func TestNoCallChangesAList(t *testing.T) {
	whole := row(touch("b"), write("a", "x"), remove("b"), touch("b"), remove("none"), touch("l(m)"), write("room", "behind"))
	kept := slices.Clone(whole)
	targets := []string{"b", "a", "b", "l(m)", "room", "behind"}
	keptTargets := slices.Clone(targets)
	for n := range len(whole) {
		effect.Apply(made(t, file("b", "y", 6)), 9, whole[:n])
		effect.Names(whole[:n])
		for m := range len(targets) {
			effect.Own(whole[:n], targets[:m])
			effect.Touches(targets[:m])
		}
	}
	if !slices.Equal(whole, kept) || !slices.Equal(targets, keptTargets) {
		t.Errorf("the lists are %v, %q", whole, targets)
	}
}

func TestAnswersAreTheCallers(t *testing.T) {
	list, targets := row(touch("a"), touch("b"), touch("c")), []string{"a", "b", "c"}
	names, again := effect.Names(list), effect.Names(list)
	touches, twice := effect.Touches(targets), effect.Touches(targets)
	names, touches = names[:cap(names)], touches[:cap(touches)]
	for i := range names {
		names[i] = "over"
	}
	for i := range touches {
		touches[i] = write("over", "over")
	}
	if !slices.Equal(again, targets) || !slices.Equal(effect.Names(list), targets) {
		t.Error("two answers of Names share their room")
	}
	if !slices.Equal(twice, list) || !slices.Equal(effect.Touches(targets), list) {
		t.Error("two answers of Touches share their room")
	}
	if !slices.Equal(list, row(touch("a"), touch("b"), touch("c"))) || !slices.Equal(targets, []string{"a", "b", "c"}) {
		t.Error("an answer shares its room with the list that was given")
	}
}

func TestATreeThatIsNotThere(t *testing.T) {
	for _, c := range []struct {
		e    effect.Effect
		want error
	}{
		{write("a", "x"), api.ErrFull}, {touch("a"), api.ErrFull}, {touch("l(m)"), api.ErrFull}, {remove("a"), api.ErrNone},
		{effect.Effect{}, api.ErrKind}, {write("", ""), api.ErrName},
	} {
		if err := effect.Do(nil, 9, c.e); !wants(err, c.want) {
			t.Errorf("Do(nil, %v): %v", c.e, err)
		}
		if n, err := effect.Apply(nil, 9, row(c.e, c.e)); n != 0 || !wants(err, c.want) {
			t.Errorf("Apply(nil, %v): %d, %v", c.e, n, err)
		}
	}
	if n, err := effect.Apply(nil, 9, nil); n != 0 || err != nil {
		t.Errorf("Apply(nil, nil): %d, %v", n, err)
	}
}

func FuzzApply(f *testing.F) {
	for _, name := range slices.Concat(members(), unfit(), nearly(), noNames()) {
		for op := range 5 {
			f.Add(op, name, "", 9, op, "lib.a", "x")
			f.Add(op, name, "x", api.MaxTick+1, 2, name, "")
		}
	}
	f.Fuzz(func(t *testing.T, op int, name, text string, tick, op2 int, name2, text2 string) {
		lib, _ := ar.Make([]ar.Member{member("x.o", 7, "odd")})
		tr := made(t, file("lib.a", lib, 5), file("a", "x", 6), file("l", "", 7))
		before := tr.Copy()
		one, two := effect.Effect{Op: op, Name: name, Text: text}, effect.Effect{Op: op2, Name: name2, Text: text2}
		n, err := effect.Apply(tr, tick, row(one, two))
		apart := before.Copy()
		done := 0
		for _, e := range row(one, two) {
			kept := apart.Copy()
			if first := effect.Do(apart, tick, e); first != nil {
				if !wants(err, first) || !tree.Same(kept, apart) {
					t.Errorf("Do(%d, %v): %v, Apply: %v", tick, e, first, err)
				}
				break
			}
			if err := effect.Check(e); err != nil {
				t.Errorf("Check(%v): %v", e, err)
			}
			done++
		}
		if n != done || (err == nil) != (done == 2) || !tree.Same(tr, apart) {
			t.Errorf("Apply(%d, %v, %v): %d, %v", tick, one, two, n, err)
		}
		but := []string{name, name2}
		for _, member := range but {
			if open := strings.IndexByte(member, '('); open > 0 {
				but = append(but, member[:open])
			}
		}
		othersStay(t, before, tr, but)
	})
}
