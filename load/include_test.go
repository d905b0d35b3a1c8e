package load_test

import (
	"strings"
	"testing"

	"millwright/api"
)

// P20.1, of an Include of a command

func TestIncludeOfACommand(t *testing.T) {
	w := tells("gen", "c: d\n\tdo\n", "gen it", "e: f", "empty", "", "gen", "word\n", "x=", "i: j").has(at(0, "gen", "empty"))
	w.gives(t, "<|gen\n", by(rule("|gen", 1, "c", "d"), "do\n"))
	w.gives(t, "a: b\n<|gen\n<|gen it\n", rule("m", 1, "a", "b"), by(rule("|gen", 1, "c", "d"), "do\n"), rule("|gen it", 1, "e", "f"))
	w.gives(t, "<| \tgen it \t# c\n", rule("|gen it", 1, "e", "f"))
	w.gives(t, "<|empty\na: b", rule("m", 2, "a", "b"))
	w.gives(t, "<|gen\n<|gen\n", by(rule("|gen", 1, "c", "d"), "do\n"), by(rule("|gen", 1, "c", "d"), "do\n"))
	w.gives(t, "<|x=\n", rule("|x=", 1, "i", "j"))
	// A command is its bytes: no variable, no quote.
	for _, command := range []string{"none", "Gen", "gen  it", "$gen", "'gen'", "|gen", "`{gen}", "gen;", "gen it too"} {
		w.fails(t, "a: b\n<|"+command+"\n", "m", 2, api.ErrNone)
	}
	tells("$gen 'it'", "a: b\n").gives(t, "<|$gen 'it'\n", rule("|$gen 'it'", 1, "a", "b"))
	// Nothing is told of a command whose Command is empty.
	tells("", "a: b").fails(t, "<|\n", "m", 1, api.ErrForm)
}

// A file isn't a command, and a command no file.
func TestCommandsAndFilesAreApart(t *testing.T) {
	w := files("gen", "a: file\n", "|gen", "b: file\n", "|only", "c: file\n").tells("gen", "d: output\n", "|gen", "e: output\n", "told", "f: output\n")
	w.gives(t, "<gen\n", rule("gen", 1, "a", "file"))
	w.gives(t, "<|gen\n", rule("|gen", 1, "d", "output"))
	w.gives(t, "< |gen\n", rule("|gen", 1, "b", "file"))
	w.gives(t, "<'|gen'\n", rule("|gen", 1, "b", "file"))
	w.gives(t, "<||gen\n", rule("||gen", 1, "e", "output"))
	w.fails(t, "<|only\n", "m", 1, api.ErrNone)
	w.fails(t, "<told\n", "m", 1, api.ErrNone)
	w.fails(t, "< |told\n", "m", 1, api.ErrNone)
}

// P20.1, of an Include of words

func TestInclude(t *testing.T) {
	w := files("one", "a: b\n", "two", "c: d\n\tdo", "empty", "", "d/e.mk", "e: f\n", "none!", "# c\n\n", "blank", " \t\n\n").tells("ls", "one\ntwo\n", "nil", "").has(at(0, "x", "two", "one"), at(0, "y", "o"))
	w.gives(t, "<one\n", rule("one", 1, "a", "b"))
	w.gives(t, "<d/e.mk # c\n", rule("d/e.mk", 1, "e", "f"))
	w.gives(t, "<one two\n", rule("one", 1, "a", "b"), by(rule("two", 1, "c", "d"), "do\n"))
	w.gives(t, "<two one\n", by(rule("two", 1, "c", "d"), "do\n"), rule("one", 1, "a", "b"))
	w.gives(t, "< \t'one' \\\n  t'w'o", rule("one", 1, "a", "b"), by(rule("two", 1, "c", "d"), "do\n"))
	w.gives(t, "<$x\n", by(rule("two", 1, "c", "d"), "do\n"), rule("one", 1, "a", "b"))
	w.gives(t, "<`{ls}\n", rule("one", 1, "a", "b"), by(rule("two", 1, "c", "d"), "do\n"))
	w.gives(t, "<${y}ne ${x:%o=%o}\n", rule("one", 1, "a", "b"), by(rule("two", 1, "c", "d"), "do\n"), rule("one", 1, "a", "b"))
	// A mkfile of no statement.
	w.gives(t, "<empty\n")
	w.gives(t, "<empty none! blank empty\na: b\n", rule("m", 2, "a", "b"))
	// The same file again.
	w.gives(t, "<one\n<one\n", rule("one", 1, "a", "b"), rule("one", 1, "a", "b"))
	w.gives(t, "<one one\n", rule("one", 1, "a", "b"), rule("one", 1, "a", "b"))
	w.gives(t, "<one empty one", rule("one", 1, "a", "b"), rule("one", 1, "a", "b"))
}

func TestIncludeOfNoWord(t *testing.T) {
	w := tells("nil", " \n").has(at(0, "x"))
	for _, words := range []string{"$none", "`{nil}", "$x", "$none$x $x `{nil}", "${x:%=a%}"} {
		w.gives(t, "<"+words+"\na: b\n", rule("m", 2, "a", "b"))
	}
	// An empty word is a word, of which there is no file.
	w.fails(t, "<''\n", "m", 1, api.ErrNone)
	w.fails(t, "<$none''\n", "m", 1, api.ErrNone)
}

func TestIncludeOfAFileThatIsNotThere(t *testing.T) {
	w := files("one", "a: b\nx = one\n", "nested", "\n\n<one\n<none one\n").tells("none", "a: b\n")
	for _, name := range []string{"none", "One", "one/", "'one '", "'none'", strings.Repeat("n", api.MaxWord), "\x01", "m/", "$none.mk"} {
		w.fails(t, "<"+name+"\n", "m", 1, api.ErrNone)
		w.fails(t, "\na: b\n<one "+name+" one\n<other\n", "m", 3, api.ErrNone)
		w.leaves(t, "<one "+name+"\n", variable("x", "one"))
		w.leaves(t, "<"+name+" one\n")
	}
	w.fails(t, "<one nested\n", "nested", 4, api.ErrNone)
	// A text's own name is none of a file.
	world{}.fails(t, "\n<m2\n", "m", 2, api.ErrNone)
}

// Words are had ahead of the first mkfile that is read, and have errors ahead of it.
func TestIncludeOfWordsThatHaveAnError(t *testing.T) {
	w := files("one", "x = two\na: b\n", "two", "c: d\n").has(at(0, "x", "one"), at(0, "long", strings.Repeat("l", api.MaxWord)), at(0, "many", strings.Fields(strings.Repeat("one ", api.MaxWords))...))
	w.fails(t, "\n<one `{none}\n", "m", 2, api.ErrNone)
	w.fails(t, "<none $long$long\n", "m", 1, api.ErrLong)
	w.fails(t, "<${long:%=l%}\n", "m", 1, api.ErrLong)
	w.fails(t, "<$many one\n", "m", 1, api.ErrFull)
	w.fails(t, "<none $many $long$long\n", "m", 1, api.ErrLong)
	w.leaves(t, "<one `{none}\n", w.env(t).List()...)
	// What the first one sets is not seen by the second word.
	w.gives(t, "<one $x\n", rule("one", 2, "a", "b"), rule("one", 2, "a", "b"))
	w.gives(t, "<$x\n<$x\n", rule("one", 2, "a", "b"), rule("two", 1, "c", "d"))
}

func TestIncludeOfItself(t *testing.T) {
	w := files("loop", "<loop\n", "late", "x = $x l\n\n<late\n", "a", "<b\n", "b", "\n<a\n").tells("gen", "\n\n<|gen\n", "round", "<back", "spin", "<spin spin\n")
	w.files["back"] = "\n\n\n<|round\n"
	w.files["spin"] = "\n<spin spin\n"
	w.fails(t, "<loop\n", "loop", 1, api.ErrDepth)
	w.fails(t, "<late\n", "late", 3, api.ErrDepth)
	w.leaves(t, "<late\n", variable("x", "l", "l", "l"))
	w.fails(t, "<a\n", "a", 1, api.ErrDepth)
	w.fails(t, "<b\n", "b", 2, api.ErrDepth)
	w.fails(t, "<|gen\n", "|gen", 3, api.ErrDepth)
	w.fails(t, "<back\n", "back", 4, api.ErrDepth)
	w.fails(t, "<|round\n", "|round", 1, api.ErrDepth)
	w.fails(t, "<spin\n", "spin", 2, api.ErrDepth)
	holds(t, "Load of loop", w.load(t, "loop"), answer{file: "loop", line: 1, err: api.ErrDepth, fault: true})
	holds(t, "Load of a", w.load(t, "a"), answer{file: "b", line: 2, err: api.ErrDepth, fault: true})
	// A text of a name of a file includes that file, not itself.
	files("m", "a: b\n").gives(t, "<m\n", rule("m", 1, "a", "b"))
	// A mkfile that includes itself till a variable says no ends.
	end := files("step", "$x: step\nnext = $more\nx = $next\nmore =\n<$x\n").has(at(0, "x", "step"), at(0, "more", "step"))
	end.gives(t, "<$x\n", rule("step", 1, "step", "step"), rule("step", 1, "step", "step"))
}

// What an included mkfile sets, the rest uses; and it uses what was set ahead of it.
func TestVariablesOfIncludedMkfiles(t *testing.T) {
	w := files("set", "x = b\ny =U= $x $x\n", "use", "$x: $y\n", "both", "<set\n<use\nx = c\n").tells("gen", "x = g\n")
	w.gives(t, "x = a\n<set\n$x: $y\n", rule("m", 3, "b", "b b"))
	w.leaves(t, "x = a\n<set\n", variable("x", "b"), hidden(variable("y", "b", "b")))
	w.gives(t, "x = a\ny = d\n<use\n<set\n<use\n", rule("use", 1, "a", "d"), rule("use", 1, "b", "b b"))
	w.gives(t, "<set use\n", rule("use", 1, "b", "b b"))
	w.gives(t, "<use set\n")
	w.gives(t, "<both\n$x: $y\n", rule("use", 1, "b", "b b"), rule("m", 2, "c", "b b"))
	w.gives(t, "x = set\n<$x\n$x: a\n<|gen\n$x: a\n", rule("m", 3, "b", "a"), rule("m", 5, "g", "a"))
	w.has(at(2, "x", "o")).gives(t, "<set\n$x: $y\n", rule("m", 2, "o", "o o"))
	w.has(at(2, "x", "o")).leaves(t, "<both\n", at(2, "x", "o"), hidden(variable("y", "o", "o")))
}

// A rule's recipe ends with its mkfile.
func TestRecipesDoNotGoOnBehindAnInclude(t *testing.T) {
	w := files("inc", "c: d\n\tdo\n", "more", "\tmore\n", "blank", "\t\n")
	w.gives(t, "a: b\n\tmake\n<inc\ne: f\n\tend\n", by(rule("m", 1, "a", "b"), "make\n"), by(rule("inc", 1, "c", "d"), "do\n"), by(rule("m", 4, "e", "f"), "end\n"))
	w.fails(t, "<inc\n\tmore\n", "m", 2, api.ErrForm)
	w.fails(t, "a: b\n\tmake\n<more\n", "more", 1, api.ErrForm)
	w.gives(t, "a: b\n<blank\n\t\n", rule("m", 1, "a", "b"))
}
