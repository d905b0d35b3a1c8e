package env_test

import (
	"slices"
	"testing"

	"millwright/api"
	"millwright/env"
)

// P14.1, of Get and Find

func TestGetAndFind(t *testing.T) {
	e := made(t, shown("a", 0, "x", "y"), hidden("b", 1, ""), shown("c", 2), env.Var{Name: "d", Words: []string{}, Level: 1}, hidden("e", 2, longest()))
	for name, want := range map[string][]string{"a": {"x", "y"}, "b": {""}, "c": nil, "d": nil, "e": {longest()}, "f": nil, "": nil, "A": nil, "aa": nil, "a ": nil, "x": nil} {
		if got := e.Get(name); !slices.Equal(got, want) {
			t.Errorf("Get(%q) is %q, not %q", name, got, want)
		}
	}
	for name, want := range map[string]env.Var{"a": shown("a", 0, "x", "y"), "b": hidden("b", 1, ""), "c": shown("c", 2), "d": shown("d", 1), "e": hidden("e", 2, longest())} {
		if got, there := e.Find(name); !there || !sameVar(got, want) {
			t.Errorf("Find(%q) is %s, %v", name, told(got), there)
		}
	}
	for _, name := range append(wrongNames(), "f", "A", "B", "aa", "_a", "a1", "x", "y", "target", name12) {
		isNone(t, e, name, "who isn't there")
	}
}

// Who is set and unset, and none else, is another one behind it.
func TestLooksBehindEachCall(t *testing.T) {
	e := env.New()
	var vars []env.Var
	look := func(what string) {
		isOf(t, e, vars, what)
		for _, name := range []string{"c", "d", "", "a b", "X"} {
			isNone(t, e, name, what)
		}
	}
	look("no variables")
	isNone(t, e, "a", "ahead of Set")
	isSet(t, e, shown("a", 1, "x"), nil)
	vars = []env.Var{shown("a", 1, "x")}
	look("Set of a")
	isNone(t, e, "b", "ahead of Set")
	isSet(t, e, hidden("b", 0), nil)
	vars = append(vars, hidden("b", 0))
	look("Set of b")
	isSet(t, e, hidden("a", 1, "y", "z"), nil)
	vars[0] = hidden("a", 1, "y", "z")
	look("Set of a anew")
	isSet(t, e, shown("a", 0, "w"), nil)
	look("Set of a at a lower level")
	isSet(t, e, shown("b", 2, "w"), nil)
	vars[1] = shown("b", 2, "w")
	look("Set of b at a greater level")
	if !e.Unset("a") {
		t.Error("Unset of a")
	}
	vars = vars[1:]
	look("Unset of a")
	isNone(t, e, "a", "behind Unset")
	// Who went has left nothing behind, neither words nor a level.
	isSet(t, e, shown("a", 0), nil)
	vars = append(vars, shown("a", 0))
	look("Set of a behind its Unset")
}

// P14.1, of Unset

func TestUnset(t *testing.T) {
	names := []string{"0", "B", "_", "a", "aa", "b"}
	for _, level := range []int{0, 1, 2} {
		var vars []env.Var
		for i, name := range names {
			vars = append(vars, env.Var{Name: name, Words: many(i), Level: (level + i) % 3, Hidden: i%2 == 0})
		}
		for i, name := range names {
			e := made(t, vars...)
			rest := slices.Delete(copied(vars), i, i+1)
			if !e.Unset(name) {
				t.Errorf("Unset(%q) was not there", name)
			}
			isOf(t, e, rest, "Unset of "+name)
			isNone(t, e, name, "Unset of "+name)
			for range 2 {
				if e.Unset(name) {
					t.Errorf("Unset(%q) twice", name)
				}
				isOf(t, e, rest, "Unset twice of "+name)
			}
		}
		e := made(t, vars...)
		for _, name := range append(wrongNames(), "A", "1", "__", "aaa", "ab", "c", "b ", " b", name12) {
			if e.Unset(name) {
				t.Errorf("Unset(%q) was there", name)
			}
		}
		isOf(t, e, vars, "behind Unsets of what isn't there")
	}
}

func TestUnsetOfAll(t *testing.T) {
	c := chance(1)
	for range 50 {
		vars := full(c.below(3))
		e := made(t, vars...)
		for len(vars) > 0 {
			at := c.below(len(vars))
			if !e.Unset(vars[at].Name) {
				t.Errorf("Unset(%q) was not there", vars[at].Name)
			}
			vars = slices.Delete(vars, at, at+1)
			isOf(t, e, vars, "while all go")
		}
		isOf(t, e, nil, "behind all")
	}
}

func TestUnsetMakesRoom(t *testing.T) {
	for i := range api.MaxVars {
		for _, level := range []int{0, 1, 2} {
			vars := full(2)
			e := made(t, vars...)
			isSet(t, e, shown("more", level, "w"), api.ErrFull)
			if e.Unset("more") {
				t.Error("Unset of who found no room")
			}
			isSet(t, e, shown("more", level, "w"), api.ErrFull)
			e.Unset(vars[i].Name)
			vars[i] = shown("more", level, "w")
			isSet(t, e, vars[i], nil)
			isSet(t, e, shown("still", level, "w"), api.ErrFull)
			isSet(t, e, shown(numbered(i), level), api.ErrFull)
			isOf(t, e, vars, "behind Unset and Set")
		}
	}
}

// Behind an Unset a variable of any level may be set.
func TestUnsetForgetsTheLevel(t *testing.T) {
	for _, old := range []int{0, 1, 2} {
		for _, new := range []int{0, 1, 2} {
			e := made(t, hidden("x", old, "a", "b"))
			e.Unset("x")
			isSet(t, e, shown("x", new, "c"), nil)
			isOf(t, e, []env.Var{shown("x", new, "c")}, "behind an Unset")
		}
	}
}

// P14.1, of List and Shown

func TestListAndShown(t *testing.T) {
	vars := []env.Var{shown("a", 0, "x"), hidden("b", 1), shown("c", 2), hidden("d", 0, "y"), shown("e", 1, "z", "")}
	for from := range vars {
		for to := from; to <= len(vars); to++ {
			for set := range 1 << (to - from) {
				some := copied(vars[from:to])
				for i := range some {
					some[i].Hidden = set>>i&1 == 1
				}
				isOf(t, made(t, some...), some, "some variables")
			}
		}
	}
}

// orders is all orders of so many things.
func orders(n int) [][]int {
	if n == 0 {
		return [][]int{nil}
	}
	var out [][]int
	for _, row := range orders(n - 1) {
		for at := range n {
			out = append(out, slices.Insert(slices.Clone(row), at, n-1))
		}
	}
	return out
}

func TestNamesRiseWhateverTheOrder(t *testing.T) {
	want := []string{"1", "A", "_", "a", "aa", "b"}
	for _, row := range orders(len(want)) {
		e := env.New()
		for _, i := range row {
			isSet(t, e, shown(want[i], i%3, want[i]), nil)
		}
		for _, list := range [][]env.Var{e.List(), e.Shown()} {
			if len(list) != len(want) {
				t.Fatalf("in order %v: %s", row, told(list...))
			}
			for i, v := range list {
				if !sameVar(v, shown(want[i], i%3, want[i])) {
					t.Fatalf("in order %v: %s", row, told(list...))
				}
			}
		}
	}
}

// Figures are first, then upper case, the underscore, and lower case; a name is ahead of those that it begins.
func TestNamesRiseByTheirBytes(t *testing.T) {
	for _, want := range [][]string{
		{"0", "9", "A", "Z", "_", "a", "z"},
		{"0", "00", "01", "0A", "0_", "0a", "1"},
		{"A", "A0", "AA", "A_", "Aa", "B", "a", "aA", "b"},
		{"X9", "XZ", "X_", "Xa", "_", "_0", "_A", "__", "_a"},
		{"a", "a0", "aZ", "a_", "aa", "aaa", "ab", "b"},
		{"10", "2", "9", "99", "A10", "A9", "a10", "a9"},
		{"CC", "CFLAGS", "Cflags", "cc", "cflags"},
	} {
		for _, back := range []bool{false, true} {
			e := env.New()
			row := slices.Clone(want)
			if back {
				slices.Reverse(row)
			}
			for i, name := range row {
				isSet(t, e, env.Var{Name: name, Level: i % 3}, nil)
			}
			var got []string
			for _, v := range e.List() {
				got = append(got, v.Name)
			}
			if !slices.Equal(got, want) {
				t.Errorf("List is of %q, not %q", got, want)
			}
		}
	}
}

func TestNamesRiseWithoutAPlan(t *testing.T) {
	c := chance(2)
	for range 2000 {
		e, vars := env.New(), []env.Var(nil)
		for range c.below(api.MaxVars + 1) {
			name := make([]byte, 1+c.below(3))
			for i := range name {
				name[i] = nameBytes[c.below(len(nameBytes))]
			}
			v := env.Var{Name: string(name), Words: many(c.below(3)), Level: 1, Hidden: c.below(2) == 1}
			isSet(t, e, v, nil)
			if at := slices.IndexFunc(vars, func(o env.Var) bool { return o.Name == v.Name }); at >= 0 {
				vars[at] = v
			} else {
				vars = append(vars, v)
			}
		}
		isOf(t, e, vars, "names without a plan")
	}
}

// P14.1, of Copy

func TestCopy(t *testing.T) {
	for _, vars := range [][]env.Var{nil, {shown("x", 0)}, {hidden("x", 2, "a", "", "b")}, {shown("b", 1, "w"), hidden("a", 0), shown("c", 2)}, full(0), full(1), full(2)} {
		e := made(t, vars...)
		c := e.Copy()
		isOf(t, c, vars, "a copy")
		isOf(t, e, vars, "what was copied")
		isOf(t, c.Copy(), vars, "a copy's copy")
	}
}

func TestCopyIsApart(t *testing.T) {
	vars := []env.Var{shown("a", 1, "x", "y"), hidden("b", 0), shown("c", 2, "z")}
	calls := map[string]struct {
		do   func(*env.Env) bool
		then []env.Var
	}{
		"Set of who is there":       {func(e *env.Env) bool { return e.Set(hidden("a", 1, "new")) == nil }, []env.Var{hidden("a", 1, "new"), vars[1], vars[2]}},
		"Set of no words":           {func(e *env.Env) bool { return e.Set(shown("a", 2)) == nil }, []env.Var{shown("a", 2), vars[1], vars[2]}},
		"Set of who isn't there":    {func(e *env.Env) bool { return e.Set(shown("d", 0, "w")) == nil }, append(copied(vars), shown("d", 0, "w"))},
		"Set at a lower level":      {func(e *env.Env) bool { return e.Set(shown("c", 1, "w")) == nil }, vars},
		"Set of no name":            {func(e *env.Env) bool { return wants(e.Set(shown("", 1)), api.ErrName) }, vars},
		"Unset of who is there":     {func(e *env.Env) bool { return e.Unset("a") }, vars[1:]},
		"Unset of the last":         {func(e *env.Env) bool { return e.Unset("c") }, vars[:2]},
		"Unset of who isn't there":  {func(e *env.Env) bool { return !e.Unset("d") }, vars},
		"Unset of all":              {func(e *env.Env) bool { return e.Unset("a") && e.Unset("b") && e.Unset("c") }, nil},
		"words of Get written over": {func(e *env.Env) bool { e.Get("a")[0] = "over"; return true }, vars},
	}
	for what, call := range calls {
		e := made(t, vars...)
		c := e.Copy()
		if !call.do(e) {
			t.Errorf("%s does not do what is told", what)
		}
		isOf(t, e, call.then, what)
		isOf(t, c, vars, "the copy behind "+what)
		isOf(t, e.Copy(), call.then, "another copy behind "+what)
		e = made(t, vars...)
		c = e.Copy()
		if !call.do(c) {
			t.Errorf("%s of a copy does not do what is told", what)
		}
		isOf(t, c, call.then, what+" of the copy")
		isOf(t, e, vars, "what was copied behind "+what+" of the copy")
	}
}

func TestCopyHasRoomOfItsOwn(t *testing.T) {
	vars := full(1)[1:]
	e := made(t, vars...)
	c := e.Copy()
	more := shown("more", 1)
	isSet(t, e, more, nil)
	isSet(t, e, shown("still", 1), api.ErrFull)
	isSet(t, c, shown("other", 0), nil)
	isSet(t, c, more, api.ErrFull)
	isOf(t, e, append(copied(vars), more), "what was copied")
	isOf(t, c, append(copied(vars), shown("other", 0)), "the copy")
	full := e.Copy()
	isSet(t, full, shown("still", 2), api.ErrFull)
	full.Unset("more")
	isSet(t, full, shown("still", 2), nil)
	isOf(t, e, append(copied(vars), more), "what was copied, full")
}
