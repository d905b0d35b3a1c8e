package expand_test

import (
	"errors"
	"slices"
	"strconv"
	"strings"
	"testing"

	"millwright/api"
	"millwright/env"
	"millwright/expand"
	"millwright/lex"
	"millwright/subst"
)

// chance is numbers without a plan, the same ones each time.
type chance uint64

// below is a number of 0 up to, but not, another one.
func (c *chance) below(n int) int {
	*c ^= *c << 13
	*c ^= *c >> 7
	*c ^= *c << 17
	return int(uint64(*c) >> 16 % uint64(n))
}

// of is a text of fewer than most bytes out of an alphabet.
func (c *chance) of(alphabet string, most int) string {
	out := make([]byte, c.below(most))
	for i := range out {
		out[i] = alphabet[c.below(len(alphabet))]
	}
	return string(out)
}

// piece is a piece of any kind, now and then of another one, of a world's names and commands, now and then of others.
func (c *chance) piece(w world) lex.Piece {
	names := append(w.names(), "nobody", "")
	commands := append(w.commands(), "nothing")
	froms := []string{"%", "&", "%.c", "&.c", "a", "", "d/%"}
	tos := []string{"%", "%.o", "&&", "", "b", "x%y", sized(118) + "%"}
	switch c.below(60) {
	case 0:
		return lex.Piece{Kind: []int{-1, lex.Back + 1}[c.below(2)], Text: names[c.below(len(names))]}
	case 1, 2, 3:
		return quoted(c.of("a' \n", 4))
	case 4:
		return plain(sized(c.below(api.MaxWord + 3)))
	}
	switch c.below(4) {
	case 0:
		return plain(c.of("a.c/%", 4))
	case 1:
		return variable(names[c.below(len(names))])
	case 2:
		return put(names[c.below(len(names))], froms[c.below(len(froms))], tos[c.below(len(tos))])
	}
	return back(commands[c.below(len(commands))])
}

// word is a word of fewer than most pieces.
func (c *chance) word(w world, most int) []lex.Piece {
	var out []lex.Piece
	for range c.below(most) {
		out = append(out, c.piece(w))
	}
	return out
}

func plain(s string) lex.Piece    { return lex.Piece{Kind: lex.Plain, Text: s} }
func quoted(s string) lex.Piece   { return lex.Piece{Kind: lex.Quoted, Text: s} }
func variable(s string) lex.Piece { return lex.Piece{Kind: lex.Var, Text: s} }
func back(s string) lex.Piece     { return lex.Piece{Kind: lex.Back, Text: s} }

// put is a Subst.
func put(s, from, to string) lex.Piece {
	return lex.Piece{Kind: lex.Subst, Text: s, From: from, To: to}
}

// word is a word of pieces.
func word(pieces ...lex.Piece) []lex.Piece { return pieces }

// sized is a text of n bytes.
func sized(n int) string { return strings.Repeat("w", n) }

// many is so many words, each another one.
func many(n int) []string {
	var out []string
	for i := range n {
		out = append(out, "w"+strconv.Itoa(i))
	}
	return out
}

// world is what words are expanded by: variables and outputs.
type world struct {
	vars map[string][]string
	out  []expand.Output
}

// usual is a world of variables and outputs of many kinds. Each command but the last one is there twice.
func usual() world {
	return world{
		vars: map[string][]string{
			"none": nil, "one": {"a"}, "two": {"b", "c"}, "many": {"x.c", "y.h", "d/z.c", "a"},
			"empty": {""}, "empties": {"", "", ""}, "head": {"", "a"}, "tail": {"a", ""}, "hole": {"a", "", "b"},
			"odd":  {"a b", " ", "'", "$one", "`{p}", "\n"},
			"lots": many(15),
		},
		out: []expand.Output{
			{Command: "nil", Text: ""}, {Command: "blank", Text: " \t\n"}, {Command: "", Text: "q"}, {Command: "o", Text: "o\n"},
			{Command: "p q", Text: "  p q\n"}, {Command: "r", Text: "\tr  s\n\nt\tu"}, {Command: "odd", Text: "'a b' $one `{o}\r\n"},
			{Command: "nil", Text: "no"}, {Command: "blank", Text: "no"}, {Command: "", Text: "no"}, {Command: "o", Text: ""},
			{Command: "p q", Text: "no"}, {Command: "r", Text: "no"}, {Command: "odd", Text: "no"}, {Command: "last", Text: "l"},
		},
	}
}

// env is a world's variables as an Env.
func (w world) env(t *testing.T) *env.Env {
	t.Helper()
	e := env.New()
	for _, name := range w.names() {
		if err := e.Set(env.Var{Name: name, Words: w.vars[name], Level: 1, Hidden: len(name)%2 == 0}); err != nil {
			t.Fatalf("%s can't be set: %v", name, err)
		}
	}
	return e
}

func (w world) names() []string {
	var out []string
	for name := range w.vars {
		out = append(out, name)
	}
	slices.Sort(out)
	return out
}

func (w world) commands() []string {
	var out []string
	for _, o := range w.out {
		out = append(out, o.Command)
	}
	return out
}

// The document's words once more, with the words of all pieces laid out ahead of their being joined.

// given is the words that a piece gives.
func (w world) given(p lex.Piece) ([]string, error) {
	switch p.Kind {
	case 0, 1:
		return []string{p.Text}, nil
	case 2:
		return w.vars[p.Text], nil
	case 3:
		var out []string
		for _, s := range w.vars[p.Text] {
			out = append(out, subst.Word(s, p.From, p.To))
		}
		return out, long(out)
	case 4:
		at := slices.Index(w.commands(), p.Text)
		if at < 0 {
			return nil, api.ErrNone
		}
		return strings.FieldsFunc(w.out[at].Text, func(r rune) bool { return r == 32 || r == 9 || r == 10 }), nil
	}
	return nil, api.ErrKind
}

// long is ErrLong, if one of some words has too many bytes.
func long(list []string) error {
	for _, s := range list {
		if len(s) > 120 {
			return api.ErrLong
		}
	}
	return nil
}

// asked is what a word is to be, or which error.
func (w world) asked(pieces []lex.Piece) ([]string, error) {
	groups, kept := [][]string{nil}, false
	for _, p := range pieces {
		list, err := w.given(p)
		if err != nil {
			return nil, err
		}
		for len(list) > 1 {
			groups[len(groups)-1] = append(groups[len(groups)-1], list[0])
			groups, list = append(groups, nil), list[1:]
		}
		groups[len(groups)-1] = append(groups[len(groups)-1], list...)
		kept = kept || p.Kind == 1
	}
	var out []string
	for _, g := range groups {
		out = append(out, strings.Join(g, ""))
	}
	switch {
	case len(out) > 40:
		return nil, api.ErrFull
	case long(out) != nil:
		return nil, api.ErrLong
	case len(out) == 1 && len(out[0]) == 0 && !kept:
		return nil, nil
	}
	return out, nil
}

// askedAll is what several words are to be, or which error.
func (w world) askedAll(list [][]lex.Piece) ([]string, error) {
	var out []string
	for _, pieces := range list {
		more, err := w.asked(pieces)
		if err != nil {
			return nil, err
		}
		out = append(out, more...)
	}
	if len(out) > 40 {
		return nil, api.ErrFull
	}
	return out, nil
}

// told is texts as a message shows them: great ones just as far as one can read them.
func told(list ...string) string {
	const most = 200
	var out []string
	for _, s := range list[:min(len(list), most)] {
		out = append(out, strconv.Quote(s[:min(len(s), most)]))
	}
	return strconv.Itoa(len(list)) + " [" + strings.Join(out, " ") + "]"
}

// shown is words of pieces as a message shows them.
func shown(list ...[]lex.Piece) string {
	const most = 100
	var out strings.Builder
	for _, w := range list[:min(len(list), most)] {
		out.WriteString("(")
		for _, p := range w[:min(len(w), most)] {
			out.WriteString(" " + strconv.Itoa(p.Kind) + " " + told(p.Text, p.From, p.To))
		}
		out.WriteString(" )")
	}
	return out.String()
}

// sameList tells whether two lists are the same; one without elements and nil are.
func sameList(a, b []string) bool { return slices.Equal(a, b) }

// wants tells whether an error is the one that is wanted, and no other one (nil: none).
func wants(err, want error) bool {
	if err == nil || want == nil {
		return err == nil && want == nil
	}
	for _, other := range []error{api.ErrKind, api.ErrNone, api.ErrFull, api.ErrLong, api.ErrQuote, api.ErrName, api.ErrForm, api.ErrState} {
		if errors.Is(err, other) != errors.Is(want, other) {
			return false
		}
	}
	return true
}

// answer is what a call told.
type answer struct {
	list []string
	err  error
}

func answerOf(list []string, err error) answer { return answer{list, err} }

// is tells whether two answers are the same; beside an error there is no list.
func (a answer) is(want answer) bool { return wants(a.err, want.err) && sameList(a.list, want.list) }

func (a answer) told() string {
	if a.err != nil {
		return told(a.list...) + " and " + a.err.Error()
	}
	return told(a.list...)
}

// holds wants an answer of a call of words of pieces.
func holds(t *testing.T, call string, list [][]lex.Piece, got, want answer) {
	t.Helper()
	if !got.is(want) {
		t.Errorf("%s of %s is %s, not %s", call, shown(list...), got.told(), want.told())
	}
}

// is wants an answer of a word in a world, alone and as the one word of a list.
func (w world) is(t *testing.T, pieces []lex.Piece, want answer) {
	t.Helper()
	e, list := w.env(t), [][]lex.Piece{pieces}
	holds(t, "Word", list, answerOf(expand.Word(pieces, e, w.out)), want)
	holds(t, "Words", list, answerOf(expand.Words(list, e, w.out)), want)
}

// isWord wants what a word is in a world.
func (w world) isWord(t *testing.T, pieces []lex.Piece, want ...string) {
	t.Helper()
	w.is(t, pieces, answerOf(want, nil))
}

// isNoWord wants which error a word has in a world.
func (w world) isNoWord(t *testing.T, pieces []lex.Piece, want error) {
	t.Helper()
	w.is(t, pieces, answerOf(nil, want))
}

// isAsked wants of words what the document's words ask, of each alone and of all.
func (w world) isAsked(t *testing.T, e *env.Env, list ...[]lex.Piece) {
	t.Helper()
	for i, pieces := range list {
		holds(t, "Word", list[i:i+1], answerOf(expand.Word(pieces, e, w.out)), answerOf(w.asked(pieces)))
	}
	holds(t, "Words", list, answerOf(expand.Words(list, e, w.out)), answerOf(w.askedAll(list)))
}
