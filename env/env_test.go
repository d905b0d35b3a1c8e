package env_test

import (
	"errors"
	"math"
	"slices"
	"strconv"
	"strings"
	"testing"

	"millwright/api"
	"millwright/env"
)

// The longest name that is one, and the shortest of right bytes that is none.
const (
	name12 = "abcdefghij_9"
	name13 = "abcdefghij_9Z"
)

// chance is numbers without a plan, the same ones each time.
type chance uint64

// below is a number of 0 up to, but not, another one.
func (c *chance) below(n int) int {
	*c ^= *c << 13
	*c ^= *c >> 7
	*c ^= *c << 17
	return int(uint64(*c) >> 16 % uint64(n))
}

// shown is a variable that isn't hidden.
func shown(name string, level int, words ...string) env.Var {
	return env.Var{Name: name, Words: words, Level: level}
}

// hidden is one that is.
func hidden(name string, level int, words ...string) env.Var {
	return env.Var{Name: name, Words: words, Level: level, Hidden: true}
}

// longest is a word of as many bytes as may be, tooLong one of one more.
func longest() string { return strings.Repeat("w", api.MaxWord) }
func tooLong() string { return strings.Repeat("w", api.MaxWord+1) }

// many is so many words, each another one.
func many(n int) []string {
	var out []string
	for i := range n {
		out = append(out, "w"+strconv.Itoa(i))
	}
	return out
}

// numbered is a right name of its own for each number; they rise as these do.
func numbered(i int) string { return "v" + strconv.Itoa(i/10) + strconv.Itoa(i%10) }

// full is as many variables as an Env may have, of one level.
func full(level int) []env.Var {
	var out []env.Var
	for i := range api.MaxVars {
		out = append(out, env.Var{Name: numbered(i), Words: many(i % 4), Level: level, Hidden: i%3 == 0})
	}
	return out
}

// made is an Env of variables that must be set without an error.
func made(t *testing.T, vars ...env.Var) *env.Env {
	t.Helper()
	e := env.New()
	for _, v := range vars {
		isSet(t, e, v, nil)
	}
	return e
}

// wants tells whether an error is the one that is wanted (nil: none).
func wants(err, want error) bool {
	if want == nil {
		return err == nil
	}
	return err != nil && errors.Is(err, want)
}

// isSet sets a variable, and wants that error.
func isSet(t *testing.T, e *env.Env, v env.Var, want error) {
	t.Helper()
	if err := e.Set(v); !wants(err, want) {
		t.Errorf("Set(%s) tells %v, not %v", told(v), err, want)
	}
}

// told is variables as a message shows them, each of their parts to be told apart.
func told(vars ...env.Var) string {
	var out []string
	for _, v := range vars {
		var words []string
		for _, w := range v.Words {
			words = append(words, strconv.Quote(w))
		}
		mark := ""
		if v.Hidden {
			mark = " hidden"
		}
		out = append(out, strconv.Quote(v.Name)+"("+strings.Join(words, " ")+") level "+strconv.Itoa(v.Level)+mark)
	}
	text := "[" + strings.Join(out, ", ") + "]"
	if len(text) > 2000 {
		text = text[:2000] + ".. (" + strconv.Itoa(len(text)) + ")"
	}
	return text
}

// sameVar tells whether two variables are the same; no words and nil are.
func sameVar(a, b env.Var) bool {
	return a.Name == b.Name && slices.Equal(a.Words, b.Words) && a.Level == b.Level && a.Hidden == b.Hidden
}

func sameVars(a, b []env.Var) bool { return slices.EqualFunc(a, b, sameVar) }

// copied is variables with words of their own.
func copied(vars []env.Var) []env.Var {
	var out []env.Var
	for _, v := range vars {
		v.Words = append([]string(nil), v.Words...)
		out = append(out, v)
	}
	return out
}

// below tells whether a name is ahead of another one, byte by byte.
func below(a, b string) bool {
	for i := 0; i < len(a) && i < len(b); i++ {
		if a[i] != b[i] {
			return a[i] < b[i]
		}
	}
	return len(a) < len(b)
}

// rising is variables in the order of their names.
func rising(vars []env.Var) []env.Var {
	out := copied(vars)
	for i := range out {
		for k := i; k > 0 && below(out[k].Name, out[k-1].Name); k-- {
			out[k], out[k-1] = out[k-1], out[k]
		}
	}
	return out
}

// isOf holds all that an Env tells against the variables that it should have.
func isOf(t *testing.T, e *env.Env, vars []env.Var, what string) {
	t.Helper()
	all := rising(vars)
	var open []env.Var
	for _, v := range all {
		if !v.Hidden {
			open = append(open, v)
		}
		if got, there := e.Find(v.Name); !there || !sameVar(got, v) {
			t.Errorf("%s: Find(%q) is %s, %v, not %s", what, v.Name, told(got), there, told(v))
		}
		if got := e.Get(v.Name); !slices.Equal(got, v.Words) {
			t.Errorf("%s: Get(%q) is %q, not %q", what, v.Name, got, v.Words)
		}
	}
	if got := e.List(); !sameVars(got, all) {
		t.Errorf("%s: List is %s, not %s", what, told(got...), told(all...))
	}
	if got := e.Shown(); !sameVars(got, open) {
		t.Errorf("%s: Shown is %s, not %s", what, told(got...), told(open...))
	}
}

// isNone holds what an Env tells of a name that isn't there.
func isNone(t *testing.T, e *env.Env, name, what string) {
	t.Helper()
	if got, there := e.Find(name); there || !sameVar(got, env.Var{}) {
		t.Errorf("%s: Find(%q) is %s, %v", what, name, told(got), there)
	}
	if got := e.Get(name); len(got) != 0 {
		t.Errorf("%s: Get(%q) is %q", what, name, got)
	}
}

// wrongNames is texts that are no variable's name.
func wrongNames() []string {
	out := []string{"", name13, strings.Repeat("x", 1<<16), "a b", " a", "a ", "\n", "a\n", "$x", "${x}", "'a'", "`", "a-b", "a.b", "a:b", "a=b", "%", "&", "\u00e9", "a\u00e9", "a\x00", "\x00", "\xff"}
	for b := range 256 {
		one := string([]byte{byte(b)})
		if !strings.Contains(nameBytes, one) {
			out = append(out, one, one+"a", "a"+one, "a"+one+"b", "abcdefghij_"+one)
		}
	}
	return out
}

// nameBytes is the bytes that a variable's name may have.
const nameBytes = "abcdefghijklmnopqrstuvwxyzABCDEFGHIJKLMNOPQRSTUVWXYZ0123456789_"

// rightNames is texts that are.
func rightNames() []string {
	out := []string{"x", "CFLAGS", "a_b", "_", "__", "_1", "1", "0a", "target", "T", name12, "ABCDEFGHIJKL", "012345678901", "____________"}
	for i := range len(nameBytes) {
		one := nameBytes[i : i+1]
		out = append(out, one, "a"+one, one+"a", "abcdefghij_"+one)
	}
	return out
}

// wrongLevels is levels that there aren't.
func wrongLevels() []int {
	return []int{-1, 3, -2, 4, -3, 5, 1 << 8, 1<<8 + 1, -1 << 8, 1 << 16, 1 << 32, 1<<32 + 1, -1 << 32, math.MaxInt, math.MinInt, math.MaxInt - 1, math.MinInt + 1}
}

// P14.1, of Check

// isChecked wants an error of a variable, from Check and from Set, and that Set sets it just if there is none.
func isChecked(t *testing.T, v env.Var, want error) {
	t.Helper()
	if err := env.Check(v); !wants(err, want) {
		t.Errorf("Check(%s) tells %v, not %v", told(v), err, want)
	}
	was := []env.Var{hidden("was_there", 1, "a", "b")}
	e := made(t, was...)
	isSet(t, e, v, want)
	if want == nil {
		was = append(was, v)
	} else {
		isNone(t, e, v.Name, "behind a Set with an error")
	}
	isOf(t, e, was, "behind Set("+told(v)+")")
}

func TestCheckOfNames(t *testing.T) {
	for _, name := range rightNames() {
		isChecked(t, shown(name, 1, "a"), nil)
	}
	for _, name := range wrongNames() {
		isChecked(t, shown(name, 1, "a"), api.ErrName)
	}
	for n := range 40 {
		var want error
		if n < 1 || n > 12 {
			want = api.ErrName
		}
		isChecked(t, shown(strings.Repeat("n", n), 0), want)
	}
}

func TestCheckOfLevels(t *testing.T) {
	for _, level := range []int{0, 1, 2} {
		isChecked(t, shown("x", level, "a"), nil)
		isChecked(t, hidden("x", level), nil)
	}
	for _, level := range wrongLevels() {
		isChecked(t, shown("x", level, "a"), api.ErrRange)
		isChecked(t, hidden("x", level), api.ErrRange)
	}
}

func TestCheckOfWords(t *testing.T) {
	for _, level := range []int{0, 1, 2} {
		for _, words := range [][]string{nil, {}, {""}, {"a"}, {"", ""}, {" "}, {"a b", "\n", "'", "$x", "\x00\xff"}, many(api.MaxWords - 1), many(api.MaxWords), make([]string, api.MaxWords)} {
			isChecked(t, shown("x", level, words...), nil)
		}
		for _, n := range []int{api.MaxWords + 1, api.MaxWords + 2, 2 * api.MaxWords, 1 << 16} {
			isChecked(t, shown("x", level, many(n)...), api.ErrFull)
			isChecked(t, shown("x", level, make([]string, n)...), api.ErrFull)
		}
	}
}

func TestCheckOfLongWords(t *testing.T) {
	for _, n := range []int{1, 2, 3, api.MaxWords} {
		for at := range n {
			for size, want := range map[int]error{0: nil, 1: nil, api.MaxWord - 1: nil, api.MaxWord: nil, api.MaxWord + 1: api.ErrLong, api.MaxWord + 2: api.ErrLong, 1 << 16: api.ErrLong} {
				words := many(n)
				words[at] = strings.Repeat("\xff", size)
				isChecked(t, shown("x", 1, words...), want)
			}
		}
	}
	all := make([]string, api.MaxWords)
	for i := range all {
		all[i] = longest()
	}
	isChecked(t, shown(name12, 2, all...), nil)
	// Bytes are counted, not what they stand for.
	isChecked(t, shown("x", 0, strings.Repeat("\u00e9", api.MaxWord/2)), nil)
	isChecked(t, shown("x", 0, strings.Repeat("\u00e9", api.MaxWord/2)+"e"), api.ErrLong)
	isChecked(t, shown("x", 0, strings.Repeat("\u00e9", api.MaxWord)), api.ErrLong)
}

// The first fault of the document's order is told: of each set of faults, in each of their places.
func TestCheckOfSeveralFaults(t *testing.T) {
	long := make([]string, api.MaxWords+1)
	long[api.MaxWords] = tooLong()
	longFirst := append([]string{tooLong()}, many(api.MaxWords)...)
	for _, name := range []string{"x", name12, "", name13, "a b", "\xff"} {
		for _, level := range []int{0, 1, 2, -1, 3, math.MaxInt, math.MinInt} {
			for i, words := range [][]string{nil, {"a"}, many(api.MaxWords + 1), {tooLong()}, {"a", tooLong(), "b"}, long, longFirst} {
				var want error
				switch {
				case name != "x" && name != name12:
					want = api.ErrName
				case level != 0 && level != 1 && level != 2:
					want = api.ErrRange
				case i == 2 || i == 5 || i == 6:
					want = api.ErrFull
				case i == 3 || i == 4:
					want = api.ErrLong
				}
				isChecked(t, shown(name, level, words...), want)
				isChecked(t, hidden(name, level, words...), want)
			}
		}
	}
}

// P14.1, of New

func TestNew(t *testing.T) {
	e := env.New()
	isOf(t, e, nil, "a new Env")
	for _, name := range append(rightNames(), wrongNames()...) {
		isNone(t, e, name, "a new Env")
		if e.Unset(name) {
			t.Errorf("Unset(%q) of a new Env", name)
		}
	}
	isOf(t, e.Copy(), nil, "its copy")
}

func TestNewEnvsAreApart(t *testing.T) {
	a, b := env.New(), env.New()
	isSet(t, a, shown("x", 1, "a"), nil)
	isOf(t, b, nil, "another new Env")
	isSet(t, b, shown("y", 1, "b"), nil)
	isOf(t, a, []env.Var{shown("x", 1, "a")}, "the first one")
	isOf(t, env.New(), nil, "a third one")
}

func TestDeclaredEnv(t *testing.T) {
	var e, other env.Env
	isOf(t, &e, nil, "an Env that is declared")
	isNone(t, &e, "x", "an Env that is declared")
	isOf(t, e.Copy(), nil, "its copy")
	if other.Unset("x") {
		t.Error("Unset of an Env that is declared")
	}
	isSet(t, &e, shown("", 1), api.ErrName)
	isOf(t, &e, nil, "an Env that is declared")
	isSet(t, &e, shown("x", 1, "a"), nil)
	isOf(t, &e, []env.Var{shown("x", 1, "a")}, "an Env that is declared, and set")
	isSet(t, other.Copy(), shown("x", 1, "a"), nil)
	isOf(t, &other, nil, "an Env that is declared, and copied")
}

// The layers above may be given nil: it has no variables, and no room for any.
func TestNilEnv(t *testing.T) {
	var none *env.Env
	isOf(t, none, nil, "an Env that is nil")
	isNone(t, none, "x", "an Env that is nil")
	if none.Unset("x") {
		t.Error("Unset of an Env that is nil")
	}
	isSet(t, none, shown("x", 1), api.ErrFull)
	isSet(t, none, shown("", 1), api.ErrName)
	isSet(t, none, shown("x", 3), api.ErrRange)
	isSet(t, none, shown("x", 0, tooLong()), api.ErrLong)
	c := none.Copy()
	isOf(t, c, nil, "its copy")
	isSet(t, c, shown("x", 1, "a"), nil)
	isOf(t, c, []env.Var{shown("x", 1, "a")}, "its copy, set")
}
