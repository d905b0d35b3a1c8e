package load_test

import (
	"errors"
	"strings"
	"testing"

	"millwright/api"
	"millwright/env"
	"millwright/expand"
	"millwright/lines"
	"millwright/load"
	"millwright/stmt"
)

// todo is what is still to be done: a statement of a mkfile, or a mkfile that a line of it includes.
type todo struct {
	file        string
	line, depth int
	s           stmt.Stmt
	// includes is whether it is a mkfile, whose name that is; it comes from a command's output, or from a file.
	includes, command bool
	name              string
}

// model is a second working-out of what a mkfile gives: a row of what is to be done, ahead of which each mkfile that is read puts its own.
func model(t *testing.T, w world, name, text string) answer {
	t.Helper()
	e := w.env(t)
	var rules []load.Rule
	list, at, err := statements(text)
	if err != nil {
		return answer{file: name, line: at, err: err, fault: true, vars: e.List()}
	}
	row := rowOf(name, 1, list)
	for loads := 1; len(row) > 0; {
		next := row[0]
		row = row[1:]
		fails := func(file string, line int, err error) answer {
			return answer{file: file, line: line, err: err, fault: true, vars: e.List()}
		}
		if !next.includes {
			more, ahead, err := w.do(next, e)
			if err != nil {
				return fails(next.file, next.line, err)
			}
			rules = append(rules, more...)
			if len(rules) == api.MaxRules+1 {
				return fails(next.file, next.line, api.ErrFull)
			}
			row = append(ahead, row...)
			continue
		}
		text, name, there := w.read(next)
		switch {
		case !there:
			return fails(next.file, next.line, api.ErrNone)
		case next.depth > 4:
			return fails(next.file, next.line, api.ErrDepth)
		case loads == 30:
			return fails(next.file, next.line, api.ErrFull)
		}
		loads++
		list, at, err := statements(text)
		if err != nil {
			return fails(name, at, err)
		}
		row = append(rowOf(name, next.depth, list), row...)
	}
	return answer{rules: rules, vars: e.List()}
}

// statements is a text's statements, or the line and the error of the first fault.
func statements(text string) ([]stmt.Stmt, int, error) {
	list, err := stmt.Of(text)
	if err == nil {
		return list, 0, nil
	}
	var f *lines.Fault
	errors.As(err, &f)
	return nil, f.Line, f.Err
}

// rowOf is a mkfile's statements, as they are to be done.
func rowOf(file string, depth int, list []stmt.Stmt) []todo {
	var row []todo
	for _, s := range list {
		row = append(row, todo{file: file, line: s.Line, depth: depth, s: s})
	}
	return row
}

// read is the text and the name of a mkfile that is included, and whether it is there.
func (w world) read(next todo) (text, name string, there bool) {
	if !next.command {
		text, there = w.files[next.name]
		return text, next.name, there
	}
	for _, o := range w.out {
		if o.Command == next.name {
			return o.Text, "|" + o.Command, true
		}
	}
	return "", "", false
}

// do is the rules of a statement that is done, and the mkfiles that it includes.
func (w world) do(next todo, e *env.Env) (rules []load.Rule, ahead []todo, err error) {
	includes := todo{file: next.file, line: next.line, depth: next.depth + 1, includes: true}
	s := next.s
	if s.Kind == stmt.Include && s.Command {
		includes.command, includes.name = true, s.Name
		return nil, []todo{includes}, nil
	}
	heads, err := expand.Words(s.Heads, e, w.out)
	if err != nil {
		return nil, nil, err
	}
	words, err := expand.Words(s.Words, e, w.out)
	if err != nil {
		return nil, nil, err
	}
	switch s.Kind {
	case stmt.Include:
		for _, word := range words {
			includes.name = word
			ahead = append(ahead, includes)
		}
	case stmt.Assign:
		err = e.Set(env.Var{Name: s.Name, Words: words, Level: 1, Hidden: s.Hidden})
	case stmt.Rule:
		if len(heads) > 0 {
			rules = []load.Rule{{Targets: heads, Prereqs: words, Attr: s.Attr, Recipe: s.Recipe, File: next.file, Line: next.line}}
		}
	}
	return rules, ahead, err
}

// chance is numbers without a plan, the same ones each time.
type chance uint64

// below is a number of 0 up to, but not, another one.
func (c *chance) below(n int) int {
	*c ^= *c << 13
	*c ^= *c >> 7
	*c ^= *c << 17
	return int(uint64(*c) >> 16 % uint64(n))
}

// one is one of some texts.
func (c *chance) one(of ...string) string { return of[c.below(len(of))] }

// line is a line of a mkfile, most of them right.
func (c *chance) line() string {
	switch c.below(120) {
	case 0:
		return c.one("\tmake", "word", "x y = a", ": a", "a:V", "a:x: b", "<", "$", "'a", "x = ${", "<|", "a: `", "x = $")
	case 1, 2:
		return c.one("<none", "<|none", "x = `{none}", "`{none}: $x", "a: `{none}", "x = $long$long", "<$many $long", "a: $many $many", "$many x: `{none}", "x = ${y:%="+strings.Repeat("%", 60)+"}", "z = $long$x")
	}
	return c.one(
		"a: b", "$x: $y", "a b:VQ: c$x.o", "%.o:Pcmp -s: %.c", "'a b' $z: ''", "`{two}: $one", "$none: $x", "$x $none: `{one}", "a: b\n\tmake", "$x:\n\tmake\n  run $x\n\t", "",
		"x = a", "x =U= a b", "y = $x $x", "y =", "z = `{two} 'c d'", "x = $x$y", "over = x", "one = $one i",
		"<one", "<two one", "<$one", "<$none", "<$x$none", "<|gen", "<| gen it ", "<'three'", "<one three", "<$y",
		"# a: b", "x = a \\", "a: b # c")
}

// mkfile is a text of some lines.
func (c *chance) mkfile(most int) string {
	var out strings.Builder
	for range c.below(most) {
		out.WriteString(c.line())
		if c.below(30) > 0 {
			out.WriteByte('\n')
		}
	}
	return out.String()
}

// world is files and outputs of such mkfiles, and variables of all levels.
func (c *chance) world() world {
	w := files("one", c.mkfile(4), "two", c.mkfile(5), "three", c.mkfile(4), "a", c.mkfile(3), "b", c.mkfile(3))
	delete(w.files, c.one("one", "two", "three", "a", "b", "none", "none", "none"))
	w = w.tells("gen", c.mkfile(4), "one", "three", "two", " a\tb\n", "gen it", c.mkfile(3), "gen", "word\n")
	w = w.has(at(c.below(3), "one", c.one("one", "two")), at(2, "over", "o"), at(c.below(2), "long", strings.Repeat("l", 61)), at(1, "many", strings.Fields(strings.Repeat("two ", 40))...))
	if c.below(2) == 0 {
		w = w.has(hidden(at(c.below(3), "x", "v")), at(c.below(3), "y", "a", "b"))
	}
	return w
}

func TestWorldsWithoutAPlan(t *testing.T) {
	c := chance(3)
	counts := map[error]int{}
	several := 0
	for range 10000 {
		w := c.world()
		if c.below(6) == 0 {
			w = w.has(full(0)[:16+c.below(3)]...)
		}
		got := w.reads(t, c.mkfile(20))
		counts[got.err]++
		if len(got.rules) > 3 {
			several++
		}
	}
	for _, err := range []error{nil, api.ErrNone, api.ErrForm, api.ErrName, api.ErrQuote, api.ErrAttr, api.ErrFull, api.ErrDepth, api.ErrLong} {
		if counts[err] < 20 {
			t.Errorf("just %d of 10000 worlds have the error %v", counts[err], err)
		}
	}
	if several < 1000 {
		t.Errorf("just %d of 10000 worlds have several rules", several)
	}
}

// No bytes make a call panic, and each error is a fault.
func TestTextsOfAnyBytes(t *testing.T) {
	c := chance(4)
	bytes := func(most int) string {
		out := make([]byte, c.below(most))
		for i := range out {
			out[i] = byte(c.below(256))
			if c.below(2) == 0 {
				out[i] = "ax:=<|UV'$`{}% \t\n\\#"[c.below(19)]
			}
		}
		return string(out)
	}
	for range 20000 {
		w := files("a", bytes(40), "x", bytes(40)).tells("", bytes(40), "a", bytes(40), bytes(9), bytes(40))
		w.reads(t, bytes(60))
		w.reads(t, "<a x\n"+bytes(20))
		w.reads(t, "<|a\n<x\n"+bytes(20))
	}
}
