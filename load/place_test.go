package load_test

import (
	"fmt"
	"strings"
	"testing"

	"millwright/api"
	"millwright/load"
)

// P20.2

// apart is rules without their files and lines.
func apart(list []load.Rule) []load.Rule {
	var out []load.Rule
	for _, r := range list {
		r.File, r.Line = "", 0
		out = append(out, r)
	}
	return out
}

// ended is a text whose last line has its end.
func ended(text string) string {
	if text == "" || strings.HasSuffix(text, "\n") {
		return text
	}
	return text + "\n"
}

// stands wants that a text has the same rules, but for files and lines, or the same error, whether its Includes stand there or what they include; without an error it leaves the same variables, too.
func (w world) stands(t *testing.T, with, in string) (included, inPlace answer) {
	t.Helper()
	included, inPlace = w.reads(t, with), w.reads(t, in)
	same := func(a answer) string {
		if a.err != nil {
			// A line that isn't right is told ahead of all statements of its mkfile: there may be fewer variables.
			a.vars = nil
		}
		return fmt.Sprintf("%s\n%v\n%s", shownRules(apart(a.rules)), a.err, shownVars(a.vars))
	}
	if same(included) != same(inPlace) {
		t.Fatalf("%q gives\n%s\nbut %q gives\n%s", with, included.shown(), in, inPlace.shown())
	}
	return included, inPlace
}

// inPlaceOf wants that of a text with an Include of one mkfile, between what is ahead and what is behind, and that each rule's file and line, or the fault's, are those where it stands.
func (w world) inPlaceOf(t *testing.T, ahead, include, file, text, behind string) {
	t.Helper()
	included, inPlace := w.stands(t, ahead+include+"\n"+behind, ahead+ended(text)+behind)
	first, many := strings.Count(ahead, "\n")+1, strings.Count(ended(text), "\n")
	place := func(in string, line int) (string, int) {
		switch {
		case in != "m":
			return in, line
		case line < first:
			return "m", line
		case line < first+many:
			return file, line - first + 1
		}
		return "m", line - many + 1
	}
	for i, r := range inPlace.rules {
		r.File, r.Line = place(r.File, r.Line)
		if !load.Same(included.rules[i], r) {
			t.Fatalf("in %q rule %d is\n%s, not\n%s", ahead+include+"\n"+behind, i, shownRule(included.rules[i]), shownRule(r))
		}
	}
	if inPlace.err != nil {
		if file, line := place(inPlace.file, inPlace.line); included.file != file || included.line != line {
			t.Fatalf("%q has a fault at %s:%d, not at %s:%d", ahead+include+"\n"+behind, included.file, included.line, file, line)
		}
	}
}

// aheads, inners and behinds are texts that may stand ahead of an Include, in a mkfile that is included, and behind: none of an inner one's physical lines ends in a backslash, and neither it nor what is behind begins with a blank or a tab.
func aheads() []string {
	return []string{"", "\n", "# c\n\n", "a: b\n", "a: $x\n\tmake\n\n", "a: b\n\tmake\n", "x = a b\n", "x = a\ny =U= $x\n$x: $y\n", "$none: a\n\tmake\n", "a: \\\n b\n", " \t\n"}
}

func inners() []string {
	return []string{
		"", "\n", "# c", "c: d", "c: d\n", "c: d\n\tdo\n\tit", "c: d\n\n\n# e\n", "x = c", "x = $x c\ny = $x\n", "$x: $y\n", "\n\n$x e: ${x:%=%.o} `{ls}\n\tdo $x\n \n", "$none: e\n\tdo\n", "c:VPcmp -s: d\ne:Q:\n", "<one", "<one two\n$x: e\n", "x =U= c\n<one\n<|gen\nc: $x\n", "'# c' d: e # f",
		"word\n", "c: d\n\n'e: f\n", "c: d\ne: `{none}\nf: g\n", "x = c\n<none\n", "<|none", "x y = c", "c: d\n<one one none\n",
	}
}

func behinds() []string {
	return []string{"", "\n", "e: f\n", "$x: $y\n\tend\n", "x = e $x\n$x: g\n", "# e\n\ne: f", "<one\n$x: f\n", "y =\n"}
}

func TestInThePlaceOfAnInclude(t *testing.T) {
	w := files("one", "1: $x\nx = one\n", "two", "x = $x two\n2: $x\n").tells("ls", "l.c\tm.c\n", "gen", "g: $x\n\tgen\n").has(at(0, "y", "w"))
	for _, text := range inners() {
		w.files["inc"] = text
		w.out = append(w.out[:2:2], tells("inc it", text).out...)
		for _, ahead := range aheads() {
			for _, behind := range behinds() {
				for include, file := range map[string]string{"<inc": "inc", "< 'inc' # c": "inc", "<$none inc": "inc", "<|inc it": "|inc it"} {
					w.inPlaceOf(t, ahead, include, file, text, behind)
				}
			}
		}
	}
}

// The limits of depth and of how many are read hold for Includes alone.
func TestInThePlaceOfIncludesAtTheLimits(t *testing.T) {
	w := chain(api.MaxDepth)
	d3 := strings.ReplaceAll(w.files["d3"], "<d4\n", w.files["d4"])
	d2 := strings.ReplaceAll(w.files["d2"], "<d3\n", d3)
	w.stands(t, "<d2\n$x: e\n", d2+"$x: e\n")
	w.stands(t, "<d2\n$x: e\n", w.files["d2"]+"$x: e\n")
	w.stands(t, "<d3 d2\n", d3+d2)
	w.files["e"] = "x = $x e\n$x: f\n"
	w.stands(t, strings.Repeat("<e\n", api.MaxRules), strings.Repeat(w.files["e"], api.MaxRules))
	w.stands(t, strings.Repeat("<e\n", api.MaxRules+1), strings.Repeat(w.files["e"], api.MaxRules+1))
	w.files["v"] = "x = w\ny = $x\n"
	w.vars = full(0)[:api.MaxVars-3]
	for _, ahead := range []string{"", "z = w\n", "x = w\nz = w\n", "z = w\nzz = w\n", "z = w\nzz = w\nzzz = w\n"} {
		w.stands(t, ahead+"<v v\n", ahead+w.files["v"]+w.files["v"])
	}
}

// flat is a text with what it includes in the places of its Includes, so many deep, and whether that could be read at all; Includes tell files, and commands, by their names alone.
func (w world) flat(text string, depth int, loads *int) (string, bool) {
	if *loads++; depth > api.MaxDepth || *loads > api.MaxLoads {
		return "", false
	}
	var out strings.Builder
	for _, line := range strings.SplitAfter(ended(text), "\n") {
		names, is := strings.CutPrefix(line, "<")
		if !is {
			out.WriteString(line)
			continue
		}
		var texts []string
		if command, is := strings.CutPrefix(names, "|"); is {
			text, _, _ := w.read(todo{command: true, name: strings.TrimSpace(command)})
			texts = []string{text}
		} else {
			for _, name := range strings.Fields(names) {
				texts = append(texts, w.files[name])
			}
		}
		for _, text := range texts {
			inner, is := w.flat(text, depth+1, loads)
			if !is {
				return "", false
			}
			out.WriteString(inner)
		}
	}
	return out.String(), true
}

// right is a mkfile of lines that are right, of which none ends in a backslash, and that begins with no blank.
func (c *chance) right(most int) string {
	var out strings.Builder
	for range c.below(most) {
		out.WriteString(c.one(
			"a: b", "$x: $y", "a b:VQ: c$x.o", "%.o: %.c\n\tmake\n  run", "'a b' $z: ''", "`{ls}: $x", "$none: $x\n\tmake", "", "# c", "x = $y",
			"x = a", "x =U= a b", "y = $x c", "y =", "z = `{ls} 'c d'", "over = x",
			"<one", "<two one", "<three", "<|gen", "<| gen it ", "<one four three"))
		out.WriteByte('\n')
	}
	return strings.TrimSuffix(out.String(), c.one("\n", ""))
}

func TestNestedMkfilesInThePlaceOfTheirIncludes(t *testing.T) {
	c := chance(5)
	nested, whole := 0, 0
	for range 6000 {
		w := files("one", c.right(3), "two", c.right(4), "three", c.right(5), "four", c.right(3)).tells("ls", " l.c m.c\n", "gen", c.right(3), "gen it", c.right(4))
		w = w.has(at(c.below(3), "x", "v"), at(2, "over", "o"))
		text := c.right(9)
		loads := 0
		in, is := w.flat(text, 1, &loads)
		if !is || len(in) > api.MaxText {
			continue
		}
		if got, _ := w.stands(t, text, in); got.err == nil && len(got.rules) > 0 {
			whole++
		}
		if loads > 3 {
			nested++
		}
	}
	if min(nested, whole) < 1000 {
		t.Errorf("just %d texts have nested mkfiles, %d rules", nested, whole)
	}
}
