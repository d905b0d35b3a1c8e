package load_test

import (
	"math"
	"slices"
	"strings"
	"testing"

	"millwright/attr"
	"millwright/load"
)

// P20.1, of Same

// unlike is rules of which no two are the same.
func unlike() []load.Rule {
	r := func(change func(*load.Rule)) load.Rule {
		out := load.Rule{
			Targets: []string{"a", "bc"}, Prereqs: []string{"d", "ef"},
			Attr: attr.Attr{Flags: attr.Virtual, Prog: "cmp"}, Recipe: "make\n", File: "m", Line: 3,
		}
		change(&out)
		return out
	}
	all := []load.Rule{
		r(func(*load.Rule) {}),
		{},
		r(func(r *load.Rule) { r.Targets, r.Prereqs = r.Prereqs, r.Targets }),
		r(func(r *load.Rule) { r.Targets, r.Prereqs = append(r.Targets, "d"), []string{"ef"} }),
		r(func(r *load.Rule) { r.File, r.Recipe = r.Recipe, r.File }),
		r(func(r *load.Rule) { r.Attr.Prog, r.Recipe = r.Recipe, r.Attr.Prog }),
		r(func(r *load.Rule) { r.Line, r.Attr.Flags = r.Attr.Flags, r.Line }),
	}
	for _, list := range [][]string{nil, {""}, {"a"}, {"bc"}, {"bc", "a"}, {"a", "bd"}, {"a", "cc"}, {"A", "bc"}, {"a", "bc", ""}, {"", "a", "bc"}, {"a", "bc", "bc"}, {"abc"}, {"a bc"}, {"ab", "c"}, {"a", "b"}, {"a", "bcd"}, {"a", "bc\x00"}, {"\xe1", "bc"}} {
		all = append(all, r(func(r *load.Rule) { r.Targets = list }))
	}
	for _, list := range [][]string{nil, {""}, {"d"}, {"ef"}, {"ef", "d"}, {"d", "eg"}, {"d", "ff"}, {"D", "ef"}, {"d", "ef", ""}, {"", "d", "ef"}, {"d", "ef", "ef"}, {"def"}, {"d ef"}, {"de", "f"}, {"d", "e"}, {"d", "efg"}} {
		all = append(all, r(func(r *load.Rule) { r.Prereqs = list }))
	}
	for _, flags := range []int{0, 1, 64, 127, 129, 144, 255, 256, 384, -1, -128, math.MaxInt, math.MinInt} {
		all = append(all, r(func(r *load.Rule) { r.Attr.Flags = flags }))
	}
	for _, prog := range []string{"", "cm", "cmq", "Cmp", "cmp ", " cmp", "cmp\x00"} {
		all = append(all, r(func(r *load.Rule) { r.Attr.Prog = prog }))
	}
	for _, recipe := range []string{"", "make", "make\n\n", "\nmake\n", "Make\n", "mske\n", "\tmake\n"} {
		all = append(all, r(func(r *load.Rule) { r.Recipe = recipe }))
	}
	for _, file := range []string{"", "n", "M", "|m", "mm", "m ", strings.Repeat("m", 5000)} {
		all = append(all, r(func(r *load.Rule) { r.File = file }))
	}
	for _, line := range []int{0, 1, 2, 4, -3, 3 + 1<<32, math.MaxInt, math.MinInt} {
		all = append(all, r(func(r *load.Rule) { r.Line = line }))
	}
	return all
}

// anew is a rule whose lists are others, of the same words; lists of none are as told.
func anew(r load.Rule, none []string) load.Rule {
	for _, list := range []*[]string{&r.Targets, &r.Prereqs} {
		if len(*list) == 0 {
			*list = none
		} else {
			*list = append(make([]string, 0, 9), *list...)
		}
	}
	return r
}

func TestSame(t *testing.T) {
	all := unlike()
	for i, a := range all {
		for k, b := range all {
			for _, none := range [][]string{nil, {}, make([]string, 0, 4)} {
				if got := load.Same(a, anew(b, none)); got != (i == k) {
					t.Errorf("that\n%s is\n%s is %t", shownRule(a), shownRule(b), got)
				}
				if got := load.Same(anew(a, none), b); got != (i == k) {
					t.Errorf("that\n%s is\n%s is %t", shownRule(a), shownRule(b), got)
				}
			}
		}
	}
}

// Lists without elements are the same in both ways.
func TestSameOfNone(t *testing.T) {
	lists := [][]string{nil, {}, []string{"a"}[:0], make([]string, 0, 7)}
	for _, targets := range lists {
		for _, prereqs := range lists {
			r := load.Rule{Targets: targets, Prereqs: prereqs, File: "m", Line: 1}
			for _, other := range lists {
				if s := (load.Rule{Targets: other, Prereqs: targets, File: "m", Line: 1}); !load.Same(r, s) || !load.Same(s, r) {
					t.Error("lists without elements aren't the same")
				}
			}
			if load.Same(r, load.Rule{Targets: []string{""}, File: "m", Line: 1}) || load.Same(r, load.Rule{Prereqs: []string{""}, File: "m", Line: 1}) {
				t.Error("a list of one empty word is one without elements")
			}
		}
	}
}

// One other byte at any place of a great word makes another rule.
func TestSameOfEachByte(t *testing.T) {
	word := strings.Repeat("w", 300)
	r := load.Rule{Targets: []string{"a", word, "b"}, Prereqs: []string{word}, Attr: attr.Attr{Prog: word}, Recipe: word, File: word}
	for i := range word {
		other := word[:i] + "v" + word[i+1:]
		for _, s := range []load.Rule{
			{Targets: []string{"a", other, "b"}, Prereqs: []string{word}, Attr: attr.Attr{Prog: word}, Recipe: word, File: word},
			{Targets: []string{"a", word, "b"}, Prereqs: []string{other}, Attr: attr.Attr{Prog: word}, Recipe: word, File: word},
			{Targets: []string{"a", word, "b"}, Prereqs: []string{word}, Attr: attr.Attr{Prog: other}, Recipe: word, File: word},
			{Targets: []string{"a", word, "b"}, Prereqs: []string{word}, Attr: attr.Attr{Prog: word}, Recipe: other, File: word},
			{Targets: []string{"a", word, "b"}, Prereqs: []string{word}, Attr: attr.Attr{Prog: word}, Recipe: word, File: other},
		} {
			if load.Same(r, s) || load.Same(s, r) || !load.Same(s, s) {
				t.Errorf("another byte at %d makes no other rule", i)
			}
		}
	}
}

func TestSameOfGreatRules(t *testing.T) {
	words := slices.Repeat([]string{"word"}, 100000)
	r := load.Rule{Targets: words, Prereqs: words}
	other := slices.Clone(words)
	if s := (load.Rule{Targets: words, Prereqs: other}); !load.Same(r, s) {
		t.Error("great rules aren't the same")
	}
	other[len(other)-1] = "ward"
	if s := (load.Rule{Targets: words, Prereqs: other}); load.Same(r, s) {
		t.Error("great rules that differ are the same")
	}
}

// Rules of a mkfile that is read twice are the same.
func TestSameOfWhatIsRead(t *testing.T) {
	w := files("inc", "c:VPcmp: d\n\tdo\n").has(at(0, "x", "a", "b"))
	one, two := w.text(t, "$x: $x\n<inc inc\n\n"), w.text(t, "$x: $x\n<inc inc\n\n")
	for i := range one.rules {
		for k := range two.rules {
			if got := load.Same(one.rules[i], two.rules[k]); got != (i == k || i+k == 3) {
				t.Errorf("that rule %d is rule %d is %t", i, k, got)
			}
		}
	}
}
