package stmt_test

import (
	"strings"
	"testing"

	"millwright/api"
)

// P19.1, of Include

func TestIncludeByHand(t *testing.T) {
	gives(t, "<a", include(row("a")...))
	gives(t, "<a b", include(row("a", "b")...))
	gives(t, "< a", include(row("a")...))
	gives(t, "<\ta", include(row("a")...))
	gives(t, "< \t a \t b\tc", include(row("a", "b", "c")...))
	gives(t, "<inc.mk", include(row("inc.mk")...))
	gives(t, "<$x", include(word(variable("x"))))
	gives(t, "<a$x'b c'", include(word(plain("a"), variable("x"), quoted("b c"))))
	gives(t, "<'a b'", include(word(quoted("a b"))))
	gives(t, "<''", include(word(quoted(""))))
	gives(t, "<`{ls *.mk} ${x:%=%.mk}", include(word(back("ls *.mk")), word(subst("x", "%", "%.mk"))))
	gives(t, "<\xff\x00 \x01", include(row("\xff\x00", "\x01")...))
}

// Whatever signs stand behind it, a line that begins with < is an Include.
func TestIncludeWithSignsBehind(t *testing.T) {
	gives(t, "<a: b", include(row("a:", "b")...))
	gives(t, "<a = b", include(row("a", "=", "b")...))
	gives(t, "<a=b:V:c", include(row("a=b:V:c")...))
	gives(t, "<:", include(row(":")...))
	gives(t, "<=", include(row("=")...))
	gives(t, "<<", include(row("<")...))
	gives(t, "<<a", include(row("<a")...))
	gives(t, "< <|a", include(row("<|a")...))
	gives(t, "<<|a", include(row("<|a")...))
	gives(t, "<|a: b", command("a: b"))
	gives(t, "<|a = b", command("a = b"))
}

func TestIncludeWithoutWords(t *testing.T) {
	for _, blanks := range []string{"", " ", "\t", "   ", " \t \t", "\t\t"} {
		wrong(t, "<"+blanks, api.ErrForm)
	}
}

func TestIncludeWithWordsThatHaveAnError(t *testing.T) {
	for text, want := range map[string]error{
		"<'a":           api.ErrQuote,
		"<'":            api.ErrQuote,
		"<a 'b''":       api.ErrQuote,
		"<$":            api.ErrName,
		"< $":           api.ErrName,
		"<$ a":          api.ErrName,
		"<a ${}":        api.ErrName,
		"<a b$-":        api.ErrName,
		"<${x":          api.ErrForm,
		"<${x:a}":       api.ErrForm,
		"<`":            api.ErrForm,
		"<a `{b":        api.ErrForm,
		"<`{{}}":        api.ErrForm,
		"<$ 'a":         api.ErrName,
		"<'a $":         api.ErrQuote,
		"<${x} ${y 'a":  api.ErrForm,
		"<'a' $x ` 'b ": api.ErrForm,
	} {
		wrong(t, text, want)
	}
}

func TestCommandByHand(t *testing.T) {
	gives(t, "<|gen it", command("gen it"))
	gives(t, "<|g", command("g"))
	gives(t, "<| gen it", command("gen it"))
	gives(t, "<|\tgen it", command("gen it"))
	gives(t, "<|gen it ", command("gen it"))
	gives(t, "<|gen it\t", command("gen it"))
	gives(t, "<| \t gen \t it \t ", command("gen \t it"))
	gives(t, "<||", command("|"))
	gives(t, "<|| a", command("| a"))
	gives(t, "<|<", command("<"))
	gives(t, "<|a | b", command("a | b"))
	gives(t, "<|\x00\xff", command("\x00\xff"))
}

// A command's Name is all behind: it isn't read as words.
func TestCommandIsNoWords(t *testing.T) {
	gives(t, "<|gen 'a  b'", command("gen 'a  b'"))
	gives(t, "<|''", command("''"))
	gives(t, "<|gen 'it", command("gen 'it"))
	gives(t, "<|'", command("'"))
	gives(t, "<|$", command("$"))
	gives(t, "<|$x ${y", command("$x ${y"))
	gives(t, "<|`{a} `", command("`{a} `"))
	gives(t, "<| ' ", command("'"))
}

func TestCommandWithoutAName(t *testing.T) {
	for _, blanks := range []string{"", " ", "\t", "   ", " \t \t", "\t\t"} {
		wrong(t, "<|"+blanks, api.ErrForm)
	}
}

// A | that doesn't stand right behind the < makes no command.
func TestIncludeOfABar(t *testing.T) {
	gives(t, "< |", include(row("|")...))
	gives(t, "<\t|", include(row("|")...))
	gives(t, "< |a", include(row("|a")...))
	gives(t, "< | a", include(row("|", "a")...))
	gives(t, "<\t|\ta b", include(row("|", "a", "b")...))
	gives(t, "<a|b", include(row("a|b")...))
	gives(t, "<a |b", include(row("a", "|b")...))
	gives(t, "<'|'a", include(word(quoted("|"), plain("a"))))
	wrong(t, "< |$", api.ErrName)
	wrong(t, "|", api.ErrForm)
	wrong(t, "|a", api.ErrForm)
	wrong(t, "| a b", api.ErrForm)
	wrong(t, "|<a", api.ErrForm)
	wrong(t, "|$", api.ErrName)
}

// A < that doesn't stand first is a byte as others are.
func TestSmallerThatIsNotFirst(t *testing.T) {
	wrong(t, "a<b", api.ErrForm)
	wrong(t, "a < b", api.ErrForm)
	wrong(t, "a <|b", api.ErrForm)
	wrong(t, "''<b", api.ErrForm)
	wrong(t, "'<b'", api.ErrForm)
	wrong(t, "$x<b", api.ErrForm)
	gives(t, "a: <b", rule(row("a"), row("<b")))
	gives(t, "a<b: c", rule(row("a<b"), row("c")))
	gives(t, "'<a': b", rule(rows(word(quoted("<a"))), row("b")))
	gives(t, "x = <b", assign("x", row("<b")...))
	wrong(t, "x< = b", api.ErrName)
	// No text gives a line with blanks ahead.
	wrong(t, " <b", api.ErrForm)
	wrong(t, "\t<|b", api.ErrForm)
	gives(t, " <b: c", rule(row("<b"), row("c")))
}

// Each byte right behind the <, or around a command's Name.
func TestIncludeOfEachByte(t *testing.T) {
	for b := range 256 {
		s := string([]byte{byte(b)})
		switch s {
		case " ", "\t":
			gives(t, "<"+s+"a", include(row("a")...))
			gives(t, "<|"+s+"a"+s, command("a"))
			wrong(t, "<"+s, api.ErrForm)
			wrong(t, "<|"+s, api.ErrForm)
		case "\n":
			// A line feed parts words, but a Name keeps it.
			gives(t, "<"+s+"a", include(row("a")...))
			gives(t, "<|"+s+"a"+s, command(s+"a"+s))
			wrong(t, "<"+s, api.ErrForm)
			gives(t, "<|"+s, command(s))
		case "|":
			gives(t, "<"+s+"a", command("a"))
			gives(t, "< "+s, include(row(s)...))
		case "'", "$", "`":
			gives(t, "<|"+s+"a"+s, command(s+"a"+s))
			gives(t, "<|"+s, command(s))
		default:
			gives(t, "<"+s+"a", include(row(s+"a")...))
			gives(t, "<"+s, include(row(s)...))
			gives(t, "<|"+s+"a"+s, command(s+"a"+s))
			gives(t, "<|"+s, command(s))
		}
	}
}

func TestIncludeOfManyWords(t *testing.T) {
	for _, n := range []int{api.MaxWords, api.MaxWords + 1, 10000} {
		texts := strings.Fields(strings.Repeat("ab ", n))
		gives(t, "<"+strings.Join(texts, " "), include(row(texts...)...))
	}
	long := strings.Repeat("a", 1<<20)
	gives(t, "<"+long, include(row(long)...))
	gives(t, "<| "+long, command(long))
}
