package load_test

import (
	"fmt"
	"strconv"
	"strings"
	"testing"

	"millwright/api"
	"millwright/env"
	"millwright/load"
)

// P20.1, of the limits

// chain is files that include one another, each in its third line: d2, d3 and so on up to a number.
func chain(last int) world {
	w := files()
	for i := 2; i < last; i++ {
		w.files["d"+strconv.Itoa(i)] = fmt.Sprintf("x = $x %d\na%d: b\n<d%d\nc%d: d\n", i, i, i+1, i)
	}
	w.files["d"+strconv.Itoa(last)] = fmt.Sprintf("x = $x %d\na%d: b\n", last, last)
	return w
}

func TestMkfilesMaxDepthDeep(t *testing.T) {
	w := chain(api.MaxDepth)
	w.gives(t, "<d2\na: $x\n",
		rule("d2", 2, "a2", "b"), rule("d3", 2, "a3", "b"), rule("d4", 2, "a4", "b"), rule("d3", 4, "c3", "d"), rule("d2", 4, "c2", "d"), rule("m", 2, "a", "2 3 4"))
	// Behind a deep one there may be another deep one.
	w.gives(t, "<d2\n<d2 d3\n<d4\n",
		rule("d2", 2, "a2", "b"), rule("d3", 2, "a3", "b"), rule("d4", 2, "a4", "b"), rule("d3", 4, "c3", "d"), rule("d2", 4, "c2", "d"),
		rule("d2", 2, "a2", "b"), rule("d3", 2, "a3", "b"), rule("d4", 2, "a4", "b"), rule("d3", 4, "c3", "d"), rule("d2", 4, "c2", "d"),
		rule("d3", 2, "a3", "b"), rule("d4", 2, "a4", "b"), rule("d3", 4, "c3", "d"), rule("d4", 2, "a4", "b"))
	holds(t, "Load of d2", chain(5).load(t, "d2"), answer{
		rules: []load.Rule{rule("d2", 2, "a2", "b"), rule("d3", 2, "a3", "b"), rule("d4", 2, "a4", "b"), rule("d5", 2, "a5", "b"), rule("d4", 4, "c4", "d"), rule("d3", 4, "c3", "d"), rule("d2", 4, "c2", "d")},
		vars:  []env.Var{variable("x", "2", "3", "4", "5")},
	})
}

func TestMkfilesTooDeep(t *testing.T) {
	w := chain(api.MaxDepth + 1)
	w.fails(t, "a: b\n<d2\nc: d\n", "d4", 3, api.ErrDepth)
	// What was set ahead of it stays set; the one that is too deep isn't read.
	w.leaves(t, "<d2\nx = a\n", variable("x", "2", "3", "4"))
	w.gives(t, "<d3\n", rule("d3", 2, "a3", "b"), rule("d4", 2, "a4", "b"), rule("d5", 2, "a5", "b"), rule("d4", 4, "c4", "d"), rule("d3", 4, "c3", "d"))
	w.fails(t, "<d3 d2\n", "d4", 3, api.ErrDepth)
	chain(9).fails(t, "<d2\n", "d4", 3, api.ErrDepth)
	holds(t, "Load of d2", chain(6).load(t, "d2"), answer{file: "d5", line: 3, err: api.ErrDepth, fault: true, vars: []env.Var{variable("x", "2", "3", "4", "5")}})
	// Its content isn't looked at.
	w.files["d5"] = "word\n"
	w.fails(t, "<d2\n", "d4", 3, api.ErrDepth)
	w.files["d5"] = ""
	w.fails(t, "<d2\n", "d4", 3, api.ErrDepth)
}

func TestOutputsTooDeep(t *testing.T) {
	w := files("f", "\n<|four\n").tells("two", "<|three\n", "three", "<f\n", "four", "a: b\n", "five", "<|two\n")
	w.fails(t, "<|two\n", "f", 2, api.ErrDepth)
	w.fails(t, "<|five\n", "|three", 1, api.ErrDepth)
	w.gives(t, "<|three\n", rule("|four", 1, "a", "b"))
}

// An Include of no word is none, however deep.
func TestNoWordIsNotTooDeep(t *testing.T) {
	w := chain(api.MaxDepth)
	w.files["d4"] = "<$none\na: b\n"
	w.gives(t, "<d2\n", rule("d2", 2, "a2", "b"), rule("d3", 2, "a3", "b"), rule("d4", 2, "a", "b"), rule("d3", 4, "c3", "d"), rule("d2", 4, "c2", "d"))
}

// A mkfile that isn't there comes ahead of one that is too deep.
func TestNoneComesAheadOfTooDeep(t *testing.T) {
	w := chain(api.MaxDepth)
	for _, include := range []string{"<none", "<|none", "<`{none}"} {
		w.files["d4"] = "\n" + include + "\n"
		w.fails(t, "<d2\n", "d4", 2, api.ErrNone)
	}
	w.files["d4"] = "<d2 none\n"
	w.fails(t, "<d2\n", "d4", 1, api.ErrDepth)
	w.files["d4"] = "<none d2\n"
	w.fails(t, "<d2\n", "d4", 1, api.ErrNone)
	w.files["d4"] = "<d2 `{none}\n"
	w.fails(t, "<d2\n", "d4", 1, api.ErrNone)
}

func TestMkfilesMaxLoads(t *testing.T) {
	w := files("e", "x = $x i\n", "more", "x = $x m\nword\n").tells("gen", "x = $x g\n")
	all := api.MaxLoads - 1
	for _, text := range []string{
		strings.Repeat("<e\n", all),
		"<" + strings.Repeat("e ", all) + "\n",
		"<" + strings.Repeat("e ", all-9) + "\n" + strings.Repeat("<e\n", 9),
	} {
		last := strings.Count(text, "\n")
		is := strings.Fields(strings.Repeat("i ", all))
		w.gives(t, text+"a: b\n", rule("m", last+1, "a", "b"))
		w.leaves(t, text, variable("x", is...))
		for _, one := range []string{"<e\n", "<more\n", "<|gen\n", "<more none\n"} {
			w.fails(t, text+one, "m", last+1, api.ErrFull)
			w.fails(t, text+"a: b\n\n"+one+"word = 1\n", "m", last+3, api.ErrFull)
			w.leaves(t, text+one+"y = a\n", variable("x", is...))
		}
		// Those that aren't there come ahead, at whichever number.
		for _, one := range []string{"<none\n", "<|none\n", "<none e\n", "<e `{none}\n"} {
			w.fails(t, text+one, "m", last+1, api.ErrNone)
		}
		w.gives(t, text+"<$none\n")
	}
	w.fails(t, "<"+strings.Repeat("e ", all+1)+"\n", "m", 1, api.ErrFull)
	w.fails(t, "\n<"+strings.Repeat("e ", api.MaxWords)+"\n", "m", 2, api.ErrFull)
	w.fails(t, strings.Repeat("<|gen\n", api.MaxLoads), "m", api.MaxLoads, api.ErrFull)
	w.gives(t, strings.Repeat("<|gen\n", all))
}

// Mkfiles within others count, too, also those that have ended.
func TestMkfilesWithinOthersCount(t *testing.T) {
	w := files("e", "", "three", "<e\n\n<e\n", "ten", "<three three\n<three\n")
	// A ten is ten mkfiles; with the first one they are 30 at most.
	w.gives(t, "<ten ten\n<three three three\n")
	w.fails(t, "<ten ten\n<three three three\n<e\n", "m", 3, api.ErrFull)
	w.fails(t, "<ten ten\n<ten\n", "three", 3, api.ErrFull)
	w.fails(t, "<ten ten ten\n", "three", 3, api.ErrFull)
	w.gives(t, "<e ten ten three three e e\n")
	w.fails(t, "<e ten ten three three e e\n<three\n", "m", 2, api.ErrFull)
	w.fails(t, "<e ten ten e e three three\n<three\n", "m", 2, api.ErrFull)
	w.fails(t, "<e ten ten e e e three three\n", "three", 3, api.ErrFull)
	w.fails(t, "<e e ten ten e e e three three\n", "three", 1, api.ErrFull)
	holds(t, "Load of ten", w.load(t, "ten"), answer{})
}

// One that is too deep comes ahead of one that is one too many.
func TestTooDeepComesAheadOfTooMany(t *testing.T) {
	w := files("e", "", "d2", "<d3\n", "d3", "\n<d4\n")
	for include, err := range map[string]error{"<e": api.ErrDepth, "<d4": api.ErrDepth, "<none": api.ErrNone, "<|none": api.ErrNone, "<`{none}": api.ErrNone, "<e none": api.ErrDepth} {
		w.files["d4"] = "\n\n" + include + "\n"
		// The d4 is mkfile number 30.
		w.fails(t, "<"+strings.Repeat("e ", api.MaxLoads-4)+"d2\n", "d4", 3, err)
		w.fails(t, "<d2\n", "d4", 3, err)
	}
	// The d4 is number 31, and isn't read.
	w.fails(t, "<"+strings.Repeat("e ", api.MaxLoads-3)+"d2\n", "d3", 2, api.ErrFull)
	w.fails(t, "<"+strings.Repeat("e ", api.MaxLoads-2)+"d2\n", "d2", 1, api.ErrFull)
	w.fails(t, "<"+strings.Repeat("e ", api.MaxLoads-1)+"d2\n", "m", 1, api.ErrFull)
}

// lots is a text of some rules, and the rules.
func lots(file string, n int) (string, []load.Rule) {
	var text strings.Builder
	var rules []load.Rule
	for i := range n {
		target := "r" + strconv.Itoa(i)
		text.WriteString(target + ": b\n")
		rules = append(rules, rule(file, i+1, target, "b"))
	}
	return text.String(), rules
}

func TestMaxRules(t *testing.T) {
	text, rules := lots("m", api.MaxRules)
	w := files("one", "a: b\n", "set", "x = s\n", "wrong", "\na: b\nc: `{none}\n").has(at(0, "none"))
	w.gives(t, text, rules...)
	w.gives(t, text+"$none: a\n\tmake\nx = a\n<set\n", rules...)
	w.leaves(t, text+"x = a\n", at(0, "none"), variable("x", "a"))
	// One more is told at its line, in its mkfile.
	w.fails(t, text+"a: b\n", "m", api.MaxRules+1, api.ErrFull)
	w.fails(t, text+"r0: b\n", "m", api.MaxRules+1, api.ErrFull)
	w.fails(t, text+"\n$none: a\nx = a\na b c:VQ: b\n\tmake\nword = 1\n<none\n", "m", api.MaxRules+4, api.ErrFull)
	w.leaves(t, text+"x = a\na: b\nx = b\n", at(0, "none"), variable("x", "a"))
	w.fails(t, text+"<one\n", "one", 1, api.ErrFull)
	w.fails(t, text+"<wrong\n", "wrong", 2, api.ErrFull)
	w.fails(t, text+"<none wrong\n", "m", api.MaxRules+1, api.ErrNone)
	// The words' errors come ahead of it.
	w.fails(t, text+"a: `{none}\n", "m", api.MaxRules+1, api.ErrNone)
	w.fails(t, text+"`{none}: a\n", "m", api.MaxRules+1, api.ErrNone)
	w.fails(t, text+"$none: `{none}\n", "m", api.MaxRules+1, api.ErrNone)
	// A line that isn't right comes ahead of all of a mkfile's statements.
	w.fails(t, text+"a: b\nword\n", "m", api.MaxRules+2, api.ErrForm)
	w.fails(t, text+"\na: b\n\tmake\n\nc: 'd\n", "m", api.MaxRules+5, api.ErrQuote)
}

// Rules of all mkfiles count.
func TestMaxRulesOfSeveralMkfiles(t *testing.T) {
	five, rules := lots("five", 5)
	w := files("five", five, "none", "$none: a\n").tells("gen", five)
	var all []load.Rule
	for range 4 {
		all = append(all, rules...)
	}
	last, _ := lots("m", 4)
	w.gives(t, "<five five none\n<five five\na: b\n", append(all, rule("m", 3, "a", "b"))...)
	w.reads(t, "<five five\n<five none five\n"+last)
	w.fails(t, "<five five\n<five none five\n"+last+"$none: a\na: b\n", "m", 8, api.ErrFull)
	w.fails(t, "<five five five five five\n", "five", 5, api.ErrFull)
	w.fails(t, "<five five five five\n<|gen\n", "|gen", 5, api.ErrFull)
	w.fails(t, "a: b\n<five five five five\n<|gen\n", "|gen", 4, api.ErrFull)
}

// A text that is too long has its fault in line 0, in its mkfile.
func TestTextsThatAreTooLong(t *testing.T) {
	long := strings.Repeat("\n", api.MaxText)
	value := "x = " + strings.Repeat("v", api.MaxWord) + "\n"
	w := files("line", "\nx = "+strings.Repeat("v ", 198)+"\n").tells("fits", long, "long", long+"\n", "line", "\n\na: "+strings.Repeat("v ", 199)+"v\n", "value", value, "longer", value[:4]+"v"+value[4:])
	w.gives(t, long)
	w.fails(t, long+"\n", "m", 0, api.ErrLong)
	w.fails(t, "word\n"+long, "m", 0, api.ErrLong)
	w.gives(t, "<|fits\na: b\n", rule("m", 2, "a", "b"))
	w.fails(t, "a: b\n<|long\n", "|long", 0, api.ErrLong)
	w.fails(t, "a: b\n<|line\n", "|line", 3, api.ErrLong)
	w.fails(t, "a: b\n<line\n", "line", 2, api.ErrFull)
	w.leaves(t, "<|value\n", variable("x", strings.Repeat("v", api.MaxWord)))
	w.fails(t, "<|longer\n", "|longer", 1, api.ErrLong)
	w.leaves(t, "x = a\n<|long\n", variable("x", "a"))
}
