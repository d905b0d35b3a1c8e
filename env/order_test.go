package env_test

import (
	"slices"
	"strings"
	"testing"

	"millwright/api"
	"millwright/env"
)

// model is the variables that an Env should have: the document's words once more, without maps.
type model []env.Var

func (m model) at(name string) int {
	return slices.IndexFunc(m, func(v env.Var) bool { return v.Name == name })
}

// isName tells whether a text is a variable's name, byte by byte.
func isName(s string) bool {
	right := strings.Trim(s, nameBytes) == ""
	for i := range len(s) {
		right = right && strings.IndexByte(nameBytes, s[i]) >= 0
	}
	return right && 1 <= len(s) && len(s) <= 12
}

// fault is the error that a variable has by itself.
func fault(v env.Var) error {
	if !isName(v.Name) {
		return api.ErrName
	}
	if v.Level != 0 && v.Level != 1 && v.Level != 2 {
		return api.ErrRange
	}
	if len(v.Words) > 40 {
		return api.ErrFull
	}
	for _, w := range v.Words {
		if len(w) > 120 {
			return api.ErrLong
		}
	}
	return nil
}

func (m model) set(v env.Var) (model, error) {
	if err := fault(v); err != nil {
		return m, err
	}
	at := m.at(v.Name)
	if at >= 0 && m[at].Level > v.Level {
		return m, nil
	}
	if at < 0 && len(m) == 24 {
		return m, api.ErrFull
	}
	out := copied(m)
	if at < 0 {
		return append(out, v), nil
	}
	out[at] = v
	return out, nil
}

func (m model) unset(name string) (model, bool) {
	at := m.at(name)
	if at < 0 {
		return m, false
	}
	return slices.Delete(copied(m), at, at+1), true
}

// act is one call that may change an Env: a Set of a variable, or an Unset of its name.
type act struct {
	unset bool
	v     env.Var
}

func sets(vars ...env.Var) []act {
	var out []act
	for _, v := range vars {
		out = append(out, act{v: v})
	}
	return out
}

func unsets(names ...string) []act {
	var out []act
	for _, name := range names {
		out = append(out, act{unset: true, v: env.Var{Name: name}})
	}
	return out
}

func (a act) told() string {
	if a.unset {
		return "Unset(" + a.v.Name + ")"
	}
	return "Set(" + told(a.v) + ")"
}

// do does it to an Env and to the model, and wants the same answers.
func (a act) do(t *testing.T, e *env.Env, m model, what string) model {
	t.Helper()
	if a.unset {
		then, want := m.unset(a.v.Name)
		if got := e.Unset(a.v.Name); got != want {
			t.Errorf("%s, %s is %v", what, a.told(), got)
		}
		return then
	}
	then, want := m.set(a.v)
	if err := e.Set(a.v); !wants(err, want) {
		t.Errorf("%s, %s tells %v, not %v", what, a.told(), err, want)
	}
	return then
}

// holds holds an Env against the model, also for names that aren't there.
func holds(t *testing.T, e *env.Env, m model, what string) {
	t.Helper()
	isOf(t, e, m, what)
	for _, name := range []string{"a", "b", "c", "A", "", "a b"} {
		if m.at(name) < 0 {
			isNone(t, e, name, what)
		}
	}
}

// acts is calls of each kind: of two names, of all levels, hidden and not, and of some that may not be.
func acts() []act {
	return slices.Concat(
		sets(
			shown("a", 0, "x"), hidden("a", 1), shown("a", 1, "y", "z"), hidden("a", 2, "w"), shown("a", 2),
			shown("b", 0), hidden("b", 1, "x"), shown("b", 2, "v"),
			shown("A", 1, "u"), hidden("", 1), shown("a", 3), shown("b", 2, tooLong()),
		),
		unsets("a", "b", "c"),
	)
}

// walk does all rows of most calls, one behind the other, and holds the Env against the model behind each.
func walk(t *testing.T, e *env.Env, m model, what string, most int) {
	holds(t, e, m, what)
	if most == 0 || t.Failed() {
		return
	}
	for _, a := range acts() {
		next := e.Copy()
		then := a.do(t, next, m, what)
		walk(t, next, then, what+", "+a.told(), most-1)
	}
	holds(t, e, m, what+" behind what was done to its copies")
}

// P14.1, in every order

func TestEveryOrder(t *testing.T) { walk(t, env.New(), nil, "no variables", 3) }

func TestEveryOrderOfAFullEnv(t *testing.T) {
	for _, level := range []int{0, 1, 2} {
		for _, gone := range []int{0, 1} {
			vars := full(level)[2+gone:]
			vars = append(vars, shown("a", 1, "old"), hidden("q", 2))
			walk(t, made(t, vars...), vars, "a full Env", 2)
		}
	}
}

func TestEveryOrderWithoutCopies(t *testing.T) {
	all := acts()
	for n := range len(all) * len(all) * len(all) {
		e, m := env.New(), model(nil)
		for _, i := range []int{n % len(all), n / len(all) % len(all), n / len(all) / len(all)} {
			m = all[i].do(t, e, m, "a row of three")
			holds(t, e, m, "a row of three behind "+all[i].told())
		}
		if t.Failed() {
			return
		}
	}
}

// anAct is a call without a plan, of one of so many names, or of one that is none.
func (c *chance) anAct(names int) act {
	v := env.Var{Name: numbered(c.below(names)), Words: many(c.below(4)), Level: c.below(3), Hidden: c.below(2) == 1}
	switch c.below(20) {
	case 0:
		v.Name = []string{"", "a b", "$x", name13, "\xff"}[c.below(5)]
	case 1:
		v.Level = wrongLevels()[c.below(len(wrongLevels()))]
	case 2:
		v.Words = many(api.MaxWords + c.below(3))
	case 3:
		v.Words = append(v.Words, longest()+strings.Repeat("w", c.below(2)))
	case 4, 5, 6, 7, 8:
		return act{unset: true, v: v}
	}
	return act{v: v}
}

func TestRowsWithoutAPlan(t *testing.T) {
	c := chance(3)
	for row := range 400 {
		e, m := env.New(), model(nil)
		names := 1 + c.below(2*api.MaxVars)
		for range 100 {
			a := c.anAct(names)
			m = a.do(t, e, m, "a row without a plan")
			isOf(t, e, m, "a row without a plan behind "+a.told())
			if c.below(10) == 0 {
				e = e.Copy()
			}
			if t.Failed() {
				t.Fatalf("in row %d", row)
			}
		}
	}
}

// P14.2

// stays holds what an Env tells of a variable of the command line.
func stays(t *testing.T, e *env.Env, v env.Var, what string) {
	t.Helper()
	if got, there := e.Find(v.Name); !there || !sameVar(got, v) {
		t.Errorf("%s: Find(%q) is %s, %v, not %s", what, v.Name, told(got), there, told(v))
	}
	if got := e.Get(v.Name); !slices.Equal(got, v.Words) {
		t.Errorf("%s: Get(%q) is %q, not %q", what, v.Name, got, v.Words)
	}
	isThere := func(o env.Var) bool { return sameVar(o, v) }
	isNamed := func(o env.Var) bool { return o.Name == v.Name }
	if list := e.List(); !slices.ContainsFunc(list, isThere) {
		t.Errorf("%s: List is %s", what, told(list...))
	}
	if list := e.Shown(); slices.ContainsFunc(list, isThere) == v.Hidden || slices.ContainsFunc(list, isNamed) == v.Hidden {
		t.Errorf("%s: Shown is %s", what, told(list...))
	}
}

// others is Sets of a mkfile and of the environment: of that name and of others, right and wrong ones.
func others(name string) []env.Var {
	var out []env.Var
	for _, level := range []int{0, 1} {
		for _, name := range []string{name, "B", "zz"} {
			out = append(out, shown(name, level), hidden(name, level, "other"))
		}
		out = append(out, shown(name, level, tooLong()), shown(name, level, many(api.MaxWords+1)...))
	}
	return append(out, shown(name, -1, "other"), shown(name+" ", 1, "other"))
}

func TestCommandLineStays(t *testing.T) {
	for _, v := range []env.Var{shown("k", 2), hidden("k", 2), shown("k", 2, "a", "", "b"), hidden("k", 2, longest())} {
		rows := others(v.Name)
		for n := range len(rows) * len(rows) * len(rows) {
			// What was there ahead of the command line makes nothing another one.
			for _, ahead := range [][]env.Var{nil, {hidden("k", 1, "ahead")}} {
				e := made(t, append(ahead, v)...)
				for _, i := range []int{n % len(rows), n / len(rows) % len(rows), n / len(rows) / len(rows)} {
					isSet(t, e, rows[i], fault(rows[i]))
					stays(t, e, v, told(v)+" behind "+told(rows[i]))
				}
				if t.Failed() {
					return
				}
			}
		}
	}
}

func TestCommandLineStaysInLongRows(t *testing.T) {
	c := chance(4)
	for range 300 {
		e, m := env.New(), model(nil)
		for range c.below(api.MaxVars) {
			a := c.anAct(api.MaxVars)
			m = a.do(t, e, m, "ahead of the command line")
		}
		kept := shown("kept", 2, many(c.below(5))...)
		kept.Hidden = c.below(2) == 1
		isSet(t, e, kept, nil)
		for range 60 {
			a := c.anAct(2 * api.MaxVars)
			a.unset, a.v.Level = false, a.v.Level%2
			if c.below(3) == 0 {
				a.v.Name = "kept"
			}
			if err := e.Set(a.v); err != nil && fault(a.v) != nil && !wants(err, fault(a.v)) {
				t.Errorf("%s tells %v", a.told(), err)
			}
			stays(t, e, kept, "behind "+a.told())
		}
		if t.Failed() {
			return
		}
	}
}

// All that are set on the command line stay, however many they are, and the list of them stays in its order.
func TestAllOfTheCommandLineStay(t *testing.T) {
	for n := 1; n <= api.MaxVars; n++ {
		vars := full(2)[:n]
		e := made(t, vars...)
		for _, level := range []int{0, 1, 0} {
			for _, v := range vars {
				isSet(t, e, env.Var{Name: v.Name, Words: []string{"other"}, Level: level, Hidden: !v.Hidden}, nil)
			}
		}
		isOf(t, e, vars, "the command line")
	}
}

// A mkfile's stay as they were, too, whatever the environment sets.
func TestMkfileStays(t *testing.T) {
	v := hidden("x", 1, "a")
	e := made(t, v)
	for range 3 {
		isSet(t, e, shown("x", 0, "b"), nil)
		isOf(t, e, []env.Var{v}, "behind the environment")
	}
	isSet(t, e, shown("x", 2, "c"), nil)
	isOf(t, e, []env.Var{shown("x", 2, "c")}, "behind the command line")
}
