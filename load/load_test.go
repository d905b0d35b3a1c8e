package load_test

import (
	"errors"
	"fmt"
	"maps"
	"slices"
	"strings"
	"testing"

	"millwright/api"
	"millwright/attr"
	"millwright/env"
	"millwright/expand"
	"millwright/load"
	"millwright/tree"
)

// world is what mkfiles are read in.
type world struct {
	files map[string]string
	vars  []env.Var
	out   []expand.Output
}

// tree is the world's files.
func (w world) tree(t *testing.T) *tree.Tree {
	t.Helper()
	f := tree.New()
	for i, name := range slices.Sorted(maps.Keys(w.files)) {
		if err := f.Put(name, w.files[name], i+1); err != nil {
			t.Fatalf("the file %q: %v", name, err)
		}
	}
	return f
}

// env is the world's variables.
func (w world) env(t *testing.T) *env.Env {
	t.Helper()
	e := env.New()
	for _, v := range w.vars {
		if err := e.Set(v); err != nil {
			t.Fatalf("the variable %q: %v", v.Name, err)
		}
	}
	return e
}

// files is a world of files alone, each by its name and its content.
func files(list ...string) world {
	w := world{files: map[string]string{}}
	for i := 0; i < len(list); i += 2 {
		w.files[list[i]] = list[i+1]
	}
	return w
}

// tells is a world of outputs alone, each by its command and its text.
func tells(list ...string) world { return world{}.tells(list...) }

// tells is the world with other outputs behind its own.
func (w world) tells(list ...string) world {
	w.out = slices.Clone(w.out)
	for i := 0; i < len(list); i += 2 {
		w.out = append(w.out, expand.Output{Command: list[i], Text: list[i+1]})
	}
	return w
}

// has is the world with other variables behind its own.
func (w world) has(list ...env.Var) world {
	w.vars = append(slices.Clone(w.vars), list...)
	return w
}

// variable is a mkfile's variable.
func variable(name string, words ...string) env.Var { return at(1, name, words...) }

// at is a variable of a level.
func at(level int, name string, words ...string) env.Var {
	return env.Var{Name: name, Words: words, Level: level}
}

// hidden is a variable that is hidden.
func hidden(v env.Var) env.Var {
	v.Hidden = true
	return v
}

// rule is a rule of a mkfile, with a target and a prerequisite for each field.
func rule(file string, line int, targets, prereqs string) load.Rule {
	return load.Rule{Targets: strings.Fields(targets), Prereqs: strings.Fields(prereqs), File: file, Line: line}
}

// by is the rule with a recipe.
func by(r load.Rule, recipe string) load.Rule {
	r.Recipe = recipe
	return r
}

// told is the rule with attributes.
func told(r load.Rule, flags int, prog string) load.Rule {
	r.Attr = attr.Attr{Flags: flags, Prog: prog}
	return r
}

// answer is what a call answers, and the variables behind it.
type answer struct {
	rules []load.Rule
	file  string
	line  int
	// err is one of api's errors; fault is whether it stands in a *Fault.
	err   error
	fault bool
	vars  []env.Var
}

// kinds is api's errors.
func kinds() []error {
	return []error{
		api.ErrRange, api.ErrLong, api.ErrForm, api.ErrName, api.ErrQuote, api.ErrRegex, api.ErrAttr, api.ErrNone, api.ErrDup,
		api.ErrFull, api.ErrDepth, api.ErrCycle, api.ErrAmbig, api.ErrState, api.ErrFail, api.ErrFlag, api.ErrKind, api.ErrLost,
	}
}

// kind is which of api's errors an error is; itself, if it is not just one.
func kind(err error) error {
	var is []error
	for _, k := range kinds() {
		if errors.Is(err, k) {
			is = append(is, k)
		}
	}
	if len(is) == 1 {
		return is[0]
	}
	return err
}

// answerOf is what a call answered by some variables.
func answerOf(e *env.Env, rules []load.Rule, err error) answer {
	a := answer{rules: rules, err: kind(err)}
	a.file, a.line, a.fault = load.Where(err)
	if e != nil {
		a.vars = e.List()
	}
	return a
}

// text is what Text answers of a mkfile m.
func (w world) text(t *testing.T, text string) answer {
	t.Helper()
	e := w.env(t)
	rules, err := load.Text("m", text, w.tree(t), e, w.out)
	return answerOf(e, rules, err)
}

// load is what Load answers of a file.
func (w world) load(t *testing.T, file string) answer {
	t.Helper()
	e := w.env(t)
	rules, err := load.Load(w.tree(t), file, e, w.out)
	return answerOf(e, rules, err)
}

func shownRule(r load.Rule) string {
	return fmt.Sprintf("%s:%d: %q: %q, %d %q, %q", r.File, r.Line, r.Targets, r.Prereqs, r.Attr.Flags, r.Attr.Prog, r.Recipe)
}

func shownRules(list []load.Rule) string {
	var out []string
	for _, r := range list {
		out = append(out, shownRule(r))
	}
	return strings.Join(out, "\n")
}

func shownVars(list []env.Var) string {
	var out []string
	for _, v := range list {
		out = append(out, fmt.Sprintf("%s=%q (%d, %t)", v.Name, v.Words, v.Level, v.Hidden))
	}
	return strings.Join(out, " ")
}

// shown is all that an answer tells.
func (a answer) shown() string {
	return fmt.Sprintf("%s\n%s:%d (%t): %v\n%s", shownRules(a.rules), a.file, a.line, a.fault, a.err, shownVars(a.vars))
}

// holds wants an answer to be as told.
func holds(t *testing.T, what string, got, want answer) {
	t.Helper()
	if got.shown() != want.shown() {
		t.Fatalf("%s gives\n%s\nnot\n%s", what, got.shown(), want.shown())
	}
}

// reads wants what the second working-out tells of a mkfile m of that text, of Text and of Load, and is that.
func (w world) reads(t *testing.T, text string) answer {
	t.Helper()
	want := model(t, w, "m", text)
	holds(t, fmt.Sprintf("Text of %q", text), w.text(t, text), want)
	if len(text) > api.MaxContent {
		return want
	}
	one := world{files: maps.Clone(w.files), vars: w.vars, out: w.out}
	if one.files == nil {
		one.files = map[string]string{}
	}
	if _, there := one.files["m"]; there || len(one.files) >= api.MaxFiles {
		return want
	}
	one.files["m"] = text
	holds(t, fmt.Sprintf("Load of %q", text), one.load(t, "m"), model(t, one, "m", text))
	return want
}

// gives wants of a mkfile m these rules.
func (w world) gives(t *testing.T, text string, rules ...load.Rule) {
	t.Helper()
	got := w.reads(t, text)
	holds(t, fmt.Sprintf("Text of %q", text), got, answer{rules: rules, vars: got.vars})
}

// fails wants of a mkfile m a fault.
func (w world) fails(t *testing.T, text, file string, line int, err error) {
	t.Helper()
	got := w.reads(t, text)
	holds(t, fmt.Sprintf("Text of %q", text), got, answer{file: file, line: line, err: err, fault: true, vars: got.vars})
}

// leaves wants behind a mkfile m these variables, whether it has a fault or not.
func (w world) leaves(t *testing.T, text string, vars ...env.Var) {
	t.Helper()
	got := w.reads(t, text)
	if shownVars(got.vars) != shownVars(vars) {
		t.Fatalf("Text of %q leaves %s, not %s", text, shownVars(got.vars), shownVars(vars))
	}
}

// P20.1, of Text

func TestExample(t *testing.T) {
	world{}.gives(t, "a: b", rule("m", 1, "a", "b"))
	world{}.gives(t, "a: b\n", rule("m", 1, "a", "b"))
}

func TestTextOfNoStatement(t *testing.T) {
	for _, text := range []string{"", "\n", "\n\n\n", "# a: b", "# a: b\n", " \n\t\n", "\\\n\n"} {
		world{}.gives(t, text)
		world{}.leaves(t, text)
	}
}

// The name of a text is any text: it names no file that must be there.
func TestTextOfAnyName(t *testing.T) {
	for _, name := range []string{"", "m", "|gen", "a b", "no\nname", "\x00\xff", ":", strings.Repeat("n", 1000), "inc"} {
		f := files("inc", "c: d\n").tree(t)
		rules, err := load.Text(name, "x = a\n$x: b\n<inc\n", f, env.New(), nil)
		if err != nil || shownRules(rules) != shownRules([]load.Rule{rule(name, 2, "a", "b"), rule("inc", 1, "c", "d")}) {
			t.Errorf("Text of a mkfile %q gives %s (%v)", name, shownRules(rules), err)
		}
		_, err = load.Text(name, "\nword\n", f, env.New(), nil)
		if file, line, is := load.Where(err); file != name || line != 2 || !is {
			t.Errorf("Text of a mkfile %q has a fault at %q:%d (%t)", name, file, line, is)
		}
	}
}

func TestTextOfANilTree(t *testing.T) {
	for _, out := range [][]expand.Output{nil, {{Command: "gen", Text: "c: d"}}} {
		e := env.New()
		rules, err := load.Text("m", "x = a\n$x: b\n", nil, e, out)
		holds(t, "Text of a nil tree", answerOf(e, rules, err), answer{rules: []load.Rule{rule("m", 2, "a", "b")}, vars: []env.Var{variable("x", "a")}})
		rules, err = load.Text("m", "\n<m\n", nil, env.New(), out)
		holds(t, "Text of a nil tree", answerOf(nil, rules, err), answer{file: "m", line: 2, err: api.ErrNone, fault: true})
	}
	rules, err := load.Text("m", "<|gen\n", nil, env.New(), []expand.Output{{Command: "gen", Text: "c: d"}})
	holds(t, "Text of a nil tree", answerOf(nil, rules, err), answer{rules: []load.Rule{rule("|gen", 1, "c", "d")}})
}

func TestANilEnv(t *testing.T) {
	f := files("m", "a: b\n", "wrong", "word\n").tree(t)
	for _, w := range []*tree.Tree{nil, tree.New(), f} {
		for _, s := range []string{"", "a: b", "x = a", "word", "'", "<none", "<|none", "$x: b", strings.Repeat("\n", api.MaxText+1)} {
			rules, err := load.Text("m", s, w, nil, nil)
			holds(t, "Text of a nil Env", answerOf(nil, rules, err), answer{err: api.ErrState})
		}
		for _, file := range []string{"m", "wrong", "none", "", "no name"} {
			rules, err := load.Load(w, file, nil, nil)
			holds(t, "Load of a nil Env", answerOf(nil, rules, err), answer{err: api.ErrState})
		}
	}
}

// An Env that was declared, not made, has no variables too.
func TestADeclaredEnv(t *testing.T) {
	var e env.Env
	rules, err := load.Text("m", "x = a\n$x$y: b\n", tree.New(), &e, nil)
	holds(t, "Text of a declared Env", answerOf(&e, rules, err), answer{rules: []load.Rule{rule("m", 2, "a", "b")}, vars: []env.Var{variable("x", "a")}})
}

// P20.1, of Load

func TestLoadOfAFileThatIsNotThere(t *testing.T) {
	for _, file := range []string{"none", "", "no name", "\n", "\xff", "M", "m ", " m", "m/", "|gen", strings.Repeat("m", api.MaxName+1)} {
		for _, w := range []world{{}, files("m", "a: b\n"), files("m", "a: b\n").tells("gen", "a: b\n")} {
			holds(t, "Load of "+file, w.load(t, file), answer{file: file, err: api.ErrNone, fault: true})
		}
		rules, err := load.Load(nil, file, env.New(), nil)
		holds(t, "Load of a nil tree", answerOf(nil, rules, err), answer{file: file, err: api.ErrNone, fault: true})
	}
	// No variable is set.
	w := files("m", "x = a\n").has(variable("y", "b"))
	holds(t, "Load of none", w.load(t, "none"), answer{file: "none", err: api.ErrNone, fault: true, vars: w.vars})
	rules, err := load.Load(nil, "m", env.New(), nil)
	holds(t, "Load of a nil tree", answerOf(nil, rules, err), answer{file: "m", err: api.ErrNone, fault: true})
}

func TestLoadOfAFileThatIsThere(t *testing.T) {
	w := files("m", "x = a\n$x: b\n\tmake\n", "empty", "", "d/mk.1", "<m\nc: $x\n", "wrong", "\n\nword\n", "|gen", "e: f\n")
	holds(t, "Load of m", w.load(t, "m"), answer{rules: []load.Rule{by(rule("m", 2, "a", "b"), "make\n")}, vars: []env.Var{variable("x", "a")}})
	holds(t, "Load of a file without content", w.load(t, "empty"), answer{})
	holds(t, "Load of d/mk.1", w.load(t, "d/mk.1"), answer{rules: []load.Rule{by(rule("m", 2, "a", "b"), "make\n"), rule("d/mk.1", 2, "c", "a")}, vars: []env.Var{variable("x", "a")}})
	holds(t, "Load of a wrong one", w.load(t, "wrong"), answer{file: "wrong", line: 3, err: api.ErrForm, fault: true})
	holds(t, "Load of |gen", w.load(t, "|gen"), answer{rules: []load.Rule{rule("|gen", 1, "e", "f")}})
}

// Load is Text of the file's name and content.
func TestLoadIsText(t *testing.T) {
	c := chance(11)
	for range 3000 {
		w := c.world()
		for name, content := range w.files {
			e := w.env(t)
			rules, err := load.Text(name, content, w.tree(t), e, w.out)
			holds(t, fmt.Sprintf("Load of %q", content), w.load(t, name), answerOf(e, rules, err))
		}
	}
}
