package env_test

import (
	"slices"
	"testing"

	"millwright/api"
	"millwright/env"
)

// P14.1, of Set

func TestSetOfWhatIsNotThere(t *testing.T) {
	others := []env.Var{shown("b", 0, "x"), hidden("d", 1), shown("f", 2, "y", "z")}
	for _, name := range []string{"a", "c", "e", "g", "B", "_", "0", "bb", "D", "f_"} {
		for _, level := range []int{0, 1, 2} {
			for _, v := range []env.Var{shown(name, level), shown(name, level, "w"), shown(name, level, "", "w", ""), hidden(name, level), hidden(name, level, "w")} {
				e := made(t, others...)
				isNone(t, e, name, "ahead of a Set")
				isSet(t, e, v, nil)
				isOf(t, e, append(copied(others), v), "behind Set("+told(v)+")")
			}
		}
	}
}

// later is who is there behind an old one and a new one of the same name.
func later(old, new env.Var) env.Var {
	if old.Level > new.Level {
		return old
	}
	return new
}

func TestSetOfWhatIsThere(t *testing.T) {
	others := []env.Var{shown("a", 2, "x"), hidden("m", 0), shown("z", 1, "y")}
	words := [][]string{nil, {}, {"a"}, {"b"}, {"a", "b"}, {""}}
	for _, others := range [][]env.Var{nil, others} {
		for n := range 3 * 3 * 2 * 2 * len(words) * len(words) {
			pick := func(many int) int {
				at := n % many
				n /= many
				return at
			}
			old := env.Var{Name: "k", Level: pick(3), Hidden: pick(2) == 1, Words: words[pick(len(words))]}
			new := env.Var{Name: "k", Level: pick(3), Hidden: pick(2) == 1, Words: words[pick(len(words))]}
			e := made(t, append(copied(others), old)...)
			isOf(t, e, append(copied(others), old), "behind the first Set")
			isSet(t, e, new, nil)
			isOf(t, e, append(copied(others), later(old, new)), "behind "+told(old)+" and "+told(new))
			isSet(t, e, new, nil)
			isOf(t, e, append(copied(others), later(old, new)), "behind "+told(old)+" and twice "+told(new))
		}
	}
}

// Check's errors are told whatever is there, also of a greater level.
func TestSetErrorsWhateverIsThere(t *testing.T) {
	wrong := []struct {
		v    env.Var
		want error
	}{
		{shown("", 1, "b"), api.ErrName},
		{shown("x y", 1, "b"), api.ErrName},
		{shown("x ", 1, "b"), api.ErrName},
		{shown(name13, 1, "b"), api.ErrName},
		{shown("x", -1, "b"), api.ErrRange},
		{shown("x", 3, "b"), api.ErrRange},
		{shown("x", 0, many(api.MaxWords+1)...), api.ErrFull},
		{shown("x", 2, many(api.MaxWords+1)...), api.ErrFull},
		{shown("x", 0, tooLong()), api.ErrLong},
		{hidden("x", 2, "a", tooLong()), api.ErrLong},
		{shown("q", 2, tooLong()), api.ErrLong},
		{shown("q", 1, many(api.MaxWords+1)...), api.ErrFull},
		{shown("q", 9), api.ErrRange},
	}
	for _, level := range []int{0, 1, 2} {
		for _, vars := range [][]env.Var{nil, {shown("x", level, "a")}, {hidden("x", level), shown(name12, level)}, append(full(level)[1:], shown("x", level, "a"))} {
			for _, w := range wrong {
				e := made(t, vars...)
				isSet(t, e, w.v, w.want)
				isOf(t, e, vars, "behind "+told(w.v))
			}
		}
	}
}

func TestSetOfMaxVars(t *testing.T) {
	for _, level := range []int{0, 1, 2} {
		for _, back := range []bool{false, true} {
			vars := full(level)
			if back {
				slices.Reverse(vars)
			}
			e := env.New()
			for i, v := range vars {
				isSet(t, e, v, nil)
				isOf(t, e, vars[:i+1], "while it fills")
			}
			for _, name := range []string{"a", "z", "v", "v0", "v000", "v05a", "V00"} {
				for _, l := range []int{0, 1, 2} {
					isSet(t, e, shown(name, l, "w"), api.ErrFull)
					isSet(t, e, hidden(name, l), api.ErrFull)
					isNone(t, e, name, "a full Env")
				}
			}
			isOf(t, e, vars, "a full Env")
		}
	}
}

func TestSetOfWhatIsThereInAFullEnv(t *testing.T) {
	for _, level := range []int{0, 1, 2} {
		for i := range api.MaxVars {
			for _, l := range []int{0, 1, 2} {
				vars := full(level)
				e := made(t, vars...)
				v := env.Var{Name: vars[i].Name, Words: []string{"new"}, Level: l, Hidden: !vars[i].Hidden}
				isSet(t, e, v, nil)
				vars[i] = later(vars[i], v)
				isOf(t, e, vars, "a full Env behind "+told(v))
				isSet(t, e, shown("one_more", l), api.ErrFull)
				isOf(t, e, vars, "a full Env behind one more")
			}
		}
	}
}

// A Set that does nothing makes no room, and takes none.
func TestSetOfALowerLevelTakesNoRoom(t *testing.T) {
	vars := full(2)[1:]
	e := made(t, vars...)
	for range 3 {
		for _, v := range vars {
			isSet(t, e, shown(v.Name, 1, "w"), nil)
			isSet(t, e, shown(v.Name, 0), nil)
		}
	}
	isOf(t, e, vars, "behind Sets of lower levels")
	last := shown("last", 0, "w")
	isSet(t, e, last, nil)
	isSet(t, e, shown("one_more", 2), api.ErrFull)
	isOf(t, e, append(vars, last), "behind the last one")
}

// The document's own words.

func TestExamples(t *testing.T) {
	e := env.New()
	isSet(t, e, shown("x", 2, "a"), nil)
	isSet(t, e, shown("x", 1, "b"), nil)
	isOf(t, e, []env.Var{shown("x", 2, "a")}, "Set of x at level 2, and at level 1")
}
