package load_test

import (
	"strconv"
	"strings"
	"testing"

	"millwright/api"
	"millwright/env"
)

// P20.1, of an Assign

func TestAssign(t *testing.T) {
	w := world{}
	w.leaves(t, "x = a b\n", variable("x", "a", "b"))
	w.leaves(t, "x=\n", variable("x"))
	w.leaves(t, "x = 'a b' ''\n", variable("x", "a b", ""))
	w.leaves(t, "x =U= a\n", hidden(variable("x", "a")))
	w.leaves(t, "x = a\nx =U= b\n", hidden(variable("x", "b")))
	w.leaves(t, "x =U= a\nx = b\n", variable("x", "b"))
	w.leaves(t, "x = a\ny = b\n_0 = c\n", variable("_0", "c"), variable("x", "a"), variable("y", "b"))
	w.leaves(t, "x = $none\n", variable("x"))
	w.leaves(t, "x = a$none.c\n", variable("x", "a.c"))
	w.gives(t, "x = a b\ny =U= c\n")
}

// A variable has its words by the variables as they are then.
func TestAssignIsByTheVariablesThen(t *testing.T) {
	w := world{}
	w.leaves(t, "x = a\ny = $x\nx = b\n", variable("x", "b"), variable("y", "a"))
	w.leaves(t, "y = $x\nx = b\n", variable("x", "b"), variable("y"))
	w.leaves(t, "x = a\nx = $x b\nx = $x.c\n", variable("x", "a", "b.c"))
	w.leaves(t, "x = a.c b.c d\ny = ${x:%.c=%.o}\nx = ${y:%.o=%.p}\n", variable("x", "a.p", "b.p", "d"), variable("y", "a.o", "b.o", "d"))
	w.leaves(t, "x = p$x.c\n", variable("x", "p.c"))
	w.has(at(0, "x", "a", "b")).leaves(t, "x = p$x.c\n", variable("x", "pa", "b.c"))
	w.tells("ls", " a\n b ").leaves(t, "x = `{ls}\ny = $x$x\n", variable("x", "a", "b"), variable("y", "a", "ba", "b"))
	// A hidden one is looked up like another one.
	w.leaves(t, "x =U= a\ny = $x\n", hidden(variable("x", "a")), variable("y", "a"))
}

func TestAssignOfAVariableOfEachLevel(t *testing.T) {
	for _, old := range []env.Var{at(0, "x", "o"), hidden(at(0, "x", "o")), at(1, "x"), hidden(at(1, "x", "o", "p"))} {
		w := world{}.has(old, at(0, "other", "w"), at(2, "z", "w"))
		w.leaves(t, "x = a b\n", at(0, "other", "w"), variable("x", "a", "b"), at(2, "z", "w"))
		w.leaves(t, "x =U= a\n", at(0, "other", "w"), hidden(variable("x", "a")), at(2, "z", "w"))
		w.leaves(t, "x =\n", at(0, "other", "w"), variable("x"), at(2, "z", "w"))
	}
	for _, old := range []env.Var{at(2, "x", "o"), hidden(at(2, "x", "o", "p")), at(2, "x")} {
		w := world{}.has(old)
		w.leaves(t, "x = a b\n", old)
		w.leaves(t, "x =U= a\n", old)
		w.leaves(t, "x =\n", old)
		w.leaves(t, "x = $x $x\ny = $x\n", old, variable("y", old.Words...))
		// Its words are looked at all the same.
		w.fails(t, "x = `{none}\n", "m", 1, api.ErrNone)
	}
	// The command line's one is what a rule and an include see.
	w := files("o", "c: d\n").has(at(2, "x", "o"))
	w.gives(t, "x = a\n$x: $x\n<$x\n", rule("m", 2, "o", "o"), rule("o", 1, "c", "d"))
}

func TestAssignOfWordsThatHaveAnError(t *testing.T) {
	long := strings.Repeat("l", api.MaxWord)
	many := strings.Repeat("w ", api.MaxWords)
	w := world{}.tells("many", many, "long", long).has(at(0, "long", long), at(0, "many", strings.Fields(many)...))
	w.leaves(t, "x = $long `{long}\ny = $many\nz = `{many}\n", append(w.vars, variable("x", long, long), variable("y", strings.Fields(many)...), variable("z", strings.Fields(many)...))...)
	for words, err := range map[string]error{
		"`{none}":          api.ErrNone,
		"a `{none} b":      api.ErrNone,
		"a `{None}`{none}": api.ErrNone,
		"${long}l":         api.ErrLong,
		"a`{long}":         api.ErrLong,
		"$long$long":       api.ErrLong,
		"${long:l%=ll%}":   api.ErrLong,
		"$many w":          api.ErrFull,
		"w$many$many":      api.ErrFull,
		"`{many} w":        api.ErrFull,
		"$long$long $many": api.ErrLong,
		"$many w `{none}":  api.ErrNone,
	} {
		for _, sign := range []string{"=", " = ", "=U=", " =U= "} {
			w.fails(t, "x"+sign+words+"\n", "m", 1, err)
			w.fails(t, "\n\ny = a\nx"+sign+words+"\nz = `{other}\n", "m", 4, err)
			w.fails(t, "x = a \\\n b\nx"+sign+"\\\n"+words, "m", 3, err)
			// The variable stays as it was.
			w.leaves(t, "x"+sign+words+"\n", w.vars...)
			w.leaves(t, "x = a\nx"+sign+words+"\n", append(w.vars, variable("x", "a"))...)
		}
	}
}

// full is variables, as many as there may be.
func full(level int) []env.Var {
	var out []env.Var
	for i := range api.MaxVars {
		out = append(out, at(level, "v"+strconv.Itoa(100+i), "w"))
	}
	return out
}

func TestAssignOfAVariableTooMany(t *testing.T) {
	for level := range 3 {
		w := world{}.has(full(level)...)
		w.fails(t, "x = a\n", "m", 1, api.ErrFull)
		w.fails(t, "\nv100 = a\nx =U= a\n", "m", 3, api.ErrFull)
		w.fails(t, "v100 = a\nx =\n<none\n", "m", 2, api.ErrFull)
		// Set's error comes behind the words' one.
		w.fails(t, "x = `{none}\n", "m", 1, api.ErrNone)
		w.leaves(t, "x = a\n", w.vars...)
		// One that is there already may be set.
		w.gives(t, "v100 = a\nv123 = a\n$v100: b\n", rule("m", 3, w.get("v100", "a", level), "b"))
	}
	var text strings.Builder
	for i := range api.MaxVars {
		text.WriteString("v" + strconv.Itoa(100+i) + " = w\n")
	}
	world{}.leaves(t, text.String(), full(1)...)
	world{}.fails(t, text.String()+"x = a\n", "m", api.MaxVars+1, api.ErrFull)
	world{}.fails(t, text.String()+"\nv100 = b\nx = a\n", "m", api.MaxVars+3, api.ErrFull)
	world{}.leaves(t, text.String()+"x = a\n", full(1)...)
}

// get is the word that a variable of a level has behind its being set to a word in a mkfile.
func (w world) get(name, set string, level int) string {
	if level < 2 {
		return set
	}
	for _, v := range w.vars {
		if v.Name == name {
			return v.Words[0]
		}
	}
	return ""
}

// What was set ahead of an error stays set.
func TestVariablesStaySetAheadOfAnError(t *testing.T) {
	w := files("inc", "y = b\n", "wrong", "y = b\nword\n", "late", "y = b\n<none\nz = c\n").tells("gen", "y =U= g\n")
	w.leaves(t, "x = a\n<none\ny = b\n", variable("x", "a"))
	w.leaves(t, "x = a\nx = b\n<|none\nx = c\n", variable("x", "b"))
	w.leaves(t, "x = a\n`{none}: b\ny = b\n", variable("x", "a"))
	w.leaves(t, "x = a\na: `{none}\ny = b\n", variable("x", "a"))
	w.leaves(t, "x = a\ny = `{none}\n", variable("x", "a"))
	w.leaves(t, "x = a\n<inc none\nz = c\n", variable("x", "a"), variable("y", "b"))
	w.leaves(t, "x = a\n<|gen\n<none\n", variable("x", "a"), hidden(variable("y", "g")))
	w.leaves(t, "x = a\n<late\nx = b\n", variable("x", "a"), variable("y", "b"))
	// A mkfile whose lines aren't right does no statement.
	w.leaves(t, "x = a\nword\n")
	w.leaves(t, "x = a\ny = 'b\n")
	w.leaves(t, "x = a\n<wrong\n", variable("x", "a"))
}
