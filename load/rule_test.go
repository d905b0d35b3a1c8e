package load_test

import (
	"strings"
	"testing"

	"millwright/api"
	"millwright/attr"
	"millwright/load"
)

// P20.1, of a Rule

func TestRule(t *testing.T) {
	w := world{}
	w.gives(t, "a:\n", rule("m", 1, "a", ""))
	w.gives(t, "a: b\n", rule("m", 1, "a", "b"))
	w.gives(t, "a b c: d e f\n", rule("m", 1, "a b c", "d e f"))
	w.gives(t, "a a: b b a\n", rule("m", 1, "a a", "b b a"))
	w.gives(t, "%.o: %.c\n", rule("m", 1, "%.o", "%.c"))
	w.gives(t, "a: b\nc: d\na: b\n", rule("m", 1, "a", "b"), rule("m", 2, "c", "d"), rule("m", 3, "a", "b"))
	// What is no name is a word all the same.
	w.gives(t, "\x01\xff: a-'b c'\n", load.Rule{Targets: []string{"\x01\xff"}, Prereqs: []string{"a-b c"}, File: "m", Line: 1})
	long := strings.Repeat("n", api.MaxName+1)
	w.gives(t, long+": "+long+"\n", rule("m", 1, long, long))
}

func TestRuleOfQuotes(t *testing.T) {
	w := world{}
	w.gives(t, "'a b': 'c d' e\n", load.Rule{Targets: []string{"a b"}, Prereqs: []string{"c d", "e"}, File: "m", Line: 1})
	w.gives(t, "'': ''\n", load.Rule{Targets: []string{""}, Prereqs: []string{""}, File: "m", Line: 1})
	w.gives(t, "a'b:c'd: 'it''s'\n", load.Rule{Targets: []string{"ab:cd"}, Prereqs: []string{"it's"}, File: "m", Line: 1})
	w.gives(t, "'$x': '`{ls}'\n", load.Rule{Targets: []string{"$x"}, Prereqs: []string{"`{ls}"}, File: "m", Line: 1})
	// An empty word of a quote is a target.
	w.gives(t, "$none'': a\n", load.Rule{Targets: []string{""}, Prereqs: []string{"a"}, File: "m", Line: 1})
}

func TestRuleOfVariablesAndCommands(t *testing.T) {
	w := tells("ls", "a.c\tb.c\n", "nil", " \n", "one", "q").has(at(0, "src", "a.c", "b.c"), at(1, "one", "o"), at(2, "two", "t u", "v"), hidden(at(0, "dark", "d")))
	w.gives(t, "$one: $src\n", rule("m", 1, "o", "a.c b.c"))
	w.gives(t, "${src:%.c=%.o}: $src\n", rule("m", 1, "a.o b.o", "a.c b.c"))
	w.gives(t, "$src $one: p$src.x $none q\n", rule("m", 1, "a.c b.c o", "pa.c b.c.x q"))
	w.gives(t, "`{ls}: `{one}`{ls} `{nil}\n", rule("m", 1, "a.c b.c", "qa.c b.c"))
	w.gives(t, "$two: $dark\n", load.Rule{Targets: []string{"t u", "v"}, Prereqs: []string{"d"}, File: "m", Line: 1})
	w.gives(t, "a: $none\n", rule("m", 1, "a", ""))
	w.gives(t, "a: `{nil}\n", rule("m", 1, "a", ""))
	// A variable's words are words: they have no signs.
	w.has(at(0, "sign", "a:", "$one", "=", "'")).gives(t, "$sign: $sign\n", rule("m", 1, "a: $one = '", "a: $one = '"))
}

// Words are by the variables as they are then.
func TestRuleIsByTheVariablesThen(t *testing.T) {
	w := world{}
	w.gives(t, "x = a\n$x: $x\nx = b\n$x: $x\n", rule("m", 2, "a", "a"), rule("m", 4, "b", "b"))
	w.gives(t, "a: $x\nx = b\n", rule("m", 1, "a", ""))
	w.gives(t, "a: $x\nx = b\nc: $x\nx = d e\n", rule("m", 1, "a", ""), rule("m", 3, "c", "b"))
	w.gives(t, "$x: a\nx = b\n$x: a\n", rule("m", 3, "b", "a"))
	w.has(at(0, "x", "o")).gives(t, "$x: a\nx = b\n$x: a\n", rule("m", 1, "o", "a"), rule("m", 3, "b", "a"))
	w.has(at(2, "x", "o")).gives(t, "$x: a\nx = b\n$x: a\n", rule("m", 1, "o", "a"), rule("m", 3, "o", "a"))
	// A recipe is told as it is.
	w.gives(t, "x = a\na: b\n\techo $x `{none} 'b # c\nx = c\n", by(rule("m", 2, "a", "b"), "echo $x `{none} 'b # c\n"))
}

func TestRuleWithoutTargets(t *testing.T) {
	w := files("inc", "$none: a\n\tmake\nc: d\n").tells("nil", "\n\t ")
	w.gives(t, "$none: a\n")
	w.gives(t, "`{nil}: a\n\tmake\n")
	w.gives(t, "$none $none`{nil}${none:%=a%}:VQ: a\n")
	w.gives(t, "a: b\n$none: c\n\tmake\nd: e\n", rule("m", 1, "a", "b"), rule("m", 4, "d", "e"))
	w.gives(t, "<inc\n", rule("inc", 3, "c", "d"))
	w.gives(t, "x =\n$x: b\nx = a\n$x: b\n", rule("m", 4, "a", "b"))
	// Its words are looked at all the same.
	w.fails(t, "a: b\n$none: `{none}\n", "m", 2, api.ErrNone)
}

func TestRuleWithAttributes(t *testing.T) {
	w := world{}.has(at(0, "x", "V"))
	w.gives(t, "a:V: b\n", told(rule("m", 1, "a", "b"), attr.Virtual, ""))
	w.gives(t, "a:VQV:b\n", told(rule("m", 1, "a", "b"), attr.Virtual|attr.Quiet, ""))
	w.gives(t, "a:DENnQRUV:\n", told(rule("m", 1, "a", ""), 255, ""))
	w.gives(t, "a:Pcmp -s $x: b\n", told(rule("m", 1, "a", "b"), 0, "cmp -s $x"))
	w.gives(t, "a b:VPV:\n\tmake\n", by(told(rule("m", 1, "a b", ""), attr.Virtual, "V"), "make\n"))
	w.gives(t, "a:R: b\n'(.*)\\.o':R: '\\1.c'\n", told(rule("m", 1, "a", "b"), attr.Regex, ""), told(rule("m", 2, "(.*)\\.o", "\\1.c"), attr.Regex, ""))
	w.gives(t, "a:: b\n", rule("m", 1, "a", "b"))
	w.gives(t, "a: b\nc:V: d\ne: f\n", rule("m", 1, "a", "b"), told(rule("m", 2, "c", "d"), attr.Virtual, ""), rule("m", 3, "e", "f"))
}

func TestRuleWithARecipe(t *testing.T) {
	w := world{}
	r := rule("m", 1, "a", "b")
	w.gives(t, "a: b\n", r)
	w.gives(t, "a: b\n\t", by(r, "\n"))
	w.gives(t, "a: b\n\tmake\n", by(r, "make\n"))
	w.gives(t, "a: b\n make", by(r, "make\n"))
	w.gives(t, "a: b\n\tmake\n\t\trun # it\n \n\tend", by(r, "make\n\trun # it\n\nend\n"))
	w.gives(t, "a: b\n\tmake\nc: d\n\tdo\n\tit\ne:\n", by(r, "make\n"), by(rule("m", 3, "c", "d"), "do\nit\n"), rule("m", 6, "e", ""))
	w.gives(t, "a: b\n\n\t\n", r)
	w.gives(t, "a: b\n"+strings.Repeat("\tl\n", 500), by(r, strings.Repeat("l\n", 500)))
}

// A rule has its mkfile's name, and the line of its first physical line.
func TestRulesMkfileAndLine(t *testing.T) {
	w := files("d/inc.mk", "\n# c\nc: d\n<|gen\ne: f\n").tells("gen", "\ng:V: h\n\tmake\n")
	w.gives(t, "a: b\n", rule("m", 1, "a", "b"))
	w.gives(t, "\n# c\n\na: b\n", rule("m", 4, "a", "b"))
	w.gives(t, "x = a \\\n b\n\na \\\n\\\n: b\n\tmake\nc: d\n", by(rule("m", 4, "a", "b"), "make\n"), rule("m", 8, "c", "d"))
	w.gives(t, "a: b\n\n<d/inc.mk\ni: j\n",
		rule("m", 1, "a", "b"), rule("d/inc.mk", 3, "c", "d"), by(told(rule("|gen", 2, "g", "h"), attr.Virtual, ""), "make\n"), rule("d/inc.mk", 5, "e", "f"), rule("m", 4, "i", "j"))
}

func TestRuleOfWordsThatHaveAnError(t *testing.T) {
	long := strings.Repeat("l", api.MaxWord)
	w := files("inc", "\n`{none}: a\n", "other", "a: $long$long\n").tells("ls", "a b").has(at(0, "long", long), at(0, "many", strings.Fields(strings.Repeat("w ", api.MaxWords))...))
	w.gives(t, "$many $none: $many\n$long: ${long}\n", rule("m", 1, strings.Repeat("w ", api.MaxWords), strings.Repeat("w ", api.MaxWords)), rule("m", 2, long, long))
	wrong := map[string]error{
		"`{none}":        api.ErrNone,
		"a `{none}":      api.ErrNone,
		"${long}l":       api.ErrLong,
		"${long:l%=ll%}": api.ErrLong,
		"$many w":        api.ErrFull,
		"$many$many":     api.ErrFull,
	}
	for words, err := range wrong {
		for _, right := range []string{"a", "`{ls}", "$long"} {
			w.fails(t, words+": "+right+"\n", "m", 1, err)
			w.fails(t, right+": "+words+"\n", "m", 1, err)
			w.fails(t, "\nx = a\n"+right+":V: \\\n"+words+"\n\tmake\n`{other}: a\n", "m", 3, err)
		}
		w.fails(t, "a: "+words+"\n", "m", 1, err)
		// The error of Heads comes first.
		for other, first := range wrong {
			w.fails(t, other+": "+words+"\n", "m", 1, first)
		}
	}
	w.fails(t, "a: b\n<inc\n", "inc", 2, api.ErrNone)
	w.fails(t, "a: b\n<other\n", "other", 1, api.ErrLong)
}
