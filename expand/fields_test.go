package expand_test

import (
	"slices"
	"strings"
	"testing"

	"millwright/api"
	"millwright/env"
	"millwright/expand"
	"millwright/quote"
)

// P17.2

// signs is the bytes that begin a piece that isn't Plain.
const signs = "'$`"

// givesFields wants that a text without signs gives its own fields, whatever the variables and outputs are.
func givesFields(t *testing.T, s string) {
	t.Helper()
	if strings.ContainsAny(s, signs) {
		t.Fatalf("%s has signs", told(s))
	}
	fields := strings.FieldsFunc(s, func(r rune) bool { return r == 32 || r == 9 || r == 10 })
	if !sameList(quote.Fields(s), fields) {
		t.Fatalf("the fields of %s are not %s", told(s), told(fields...))
	}
	want := answer{list: fields}
	if len(fields) > 40 {
		want = answer{err: api.ErrFull}
	}
	// A word that is too long is told where it stands, ahead of the number of all.
	if err := long(fields); err != nil {
		want = answer{err: err}
	}
	w := usual()
	for _, e := range []*env.Env{nil, env.New(), w.env(t)} {
		for _, out := range [][]expand.Output{nil, w.out, {{s, "no"}}} {
			if got := answerOf(expand.Text(s, e, out)); !got.is(want) {
				t.Errorf("Text of %s is %s, not %s", told(s), got.told(), want.told())
			}
		}
	}
}

func TestTextsWithoutSigns(t *testing.T) {
	for _, s := range []string{
		"", " ", "\n", "\t", " \t\n\n", "a", "a b", " a  b ", "a\tb\nc", "one", "two none", "{one}", "{one:a=b}", "{o}", "{", "}", "x = a b", "a:V: b c", "# a comment", "<file", "<|ls", "a\\", "\\ a",
		"%.o: %.c", "&.o: &.c", "%", "&", "lib.a(x.o)", "a=b=c", "\"a b\"", "\r\n", "a\rb", "\v\f", "\x00", "\x00 \x01", "\xff \xfe", "\u00e9 \u00a0 \u0085", "~ ^ * ? [ ] ( ) ; | < > ! @ , . / - _ +",
		sized(120), sized(120) + " " + sized(120), " " + sized(119) + "\n", sized(121), "a " + sized(121), sized(121) + " a", strings.Repeat("a ", 39), strings.Repeat("a ", 40), strings.Repeat("a ", 41), strings.Repeat("a ", 41) + sized(121), strings.Repeat(sized(120)+" ", 40),
	} {
		givesFields(t, s)
	}
}

func TestTextsOfEveryByteWithoutSigns(t *testing.T) {
	for b := range 256 {
		s := string([]byte{byte(b)})
		if strings.Contains(signs, s) {
			continue
		}
		for _, text := range []string{s, s + s, "a" + s, s + "a", "a" + s + "b", "a " + s + " b", s + " " + s, "one" + s + "two"} {
			givesFields(t, text)
		}
	}
}

func TestTextsWithoutSignsAndWithoutAPlan(t *testing.T) {
	var every []byte
	for b := range 256 {
		if !strings.Contains(signs, string([]byte{byte(b)})) {
			every = append(every, byte(b))
		}
	}
	c := chance(5)
	for range 3000 {
		for _, alphabet := range []string{"a ", "ab \t\n", "{}:=%& one", string(every)} {
			givesFields(t, c.of(alphabet, 60))
		}
		givesFields(t, c.of("aaaaaaaaa ", 300))
	}
}

// What is given once stays as it is: the fields of words that have no signs are these words.
func TestFieldsStay(t *testing.T) {
	w := usual()
	for _, s := range []string{"$two ${two:%=%.o} `{r} p$two.c", "$many $lots", "a b c"} {
		first, err := expand.Text(s, w.env(t), w.out)
		if err != nil {
			t.Fatal(err)
		}
		slices.Reverse(first)
		w.isText(t, strings.Join(first, "\n"), first...)
	}
}
