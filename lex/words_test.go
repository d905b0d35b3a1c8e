package lex_test

import (
	"errors"
	"strings"
	"testing"

	"millwright/api"
	"millwright/lex"
)

// isWords tells by a test which words a text has.
func isWords(t *testing.T, s string, want ...[]lex.Piece) {
	t.Helper()
	if got, err := lex.Words(s); err != nil || !same(got, want) {
		t.Fatalf("Words(%s) is %s (%v), not %s", shown(s), told(got), err, told(want))
	}
}

// isWord tells by a test of which pieces the one word of a text is.
func isWord(t *testing.T, s string, want ...lex.Piece) {
	t.Helper()
	isWords(t, s, want)
}

// isNoWords tells by a test which error a text has, and that there is nothing beside it.
func isNoWords(t *testing.T, s string, want error) {
	t.Helper()
	got, err := lex.Words(s)
	if !errors.Is(err, want) || len(got) != 0 {
		t.Fatalf("Words(%s) is %s (%v), not %v", shown(s), told(got), err, want)
	}
	for _, other := range []error{api.ErrQuote, api.ErrName, api.ErrForm} {
		if other != want && errors.Is(err, other) {
			t.Fatalf("Words(%s) has the error %v, too", shown(s), other)
		}
	}
}

// P13.1, of Words

func TestTheExample(t *testing.T) {
	isWords(t, "a$x'b c' d", word(plain("a"), variable("x"), quoted("b c")), word(plain("d")))
}

func TestWordsOfBlanks(t *testing.T) {
	for _, s := range []string{"", " ", "\t", "\n", "  ", "\t\t", "\n\n", " \t\n", "\n\n\t  \t"} {
		isWords(t, s)
	}
}

func TestWordsAtBlanks(t *testing.T) {
	for _, b := range []string{" ", "\t", "\n", "  ", "\t\t", "\n\n", " \t", "\n ", " \t\n \n"} {
		isWords(t, b+"a", word(plain("a")))
		isWords(t, "a"+b, word(plain("a")))
		isWords(t, b+"a"+b, word(plain("a")))
		isWords(t, "a"+b+"b", word(plain("a")), word(plain("b")))
		isWords(t, b+"a"+b+"bc"+b+"a"+b, word(plain("a")), word(plain("bc")), word(plain("a")))
		isWords(t, b+"'a'"+b+"''"+b, word(quoted("a")), word(quoted("")))
		isWords(t, b+"$a"+b+"${b}"+b, word(variable("a")), word(variable("b")))
		isWords(t, "${a:b=c}"+b+"${d:=}", word(subst("a", "b", "c")), word(subst("d", "", "")))
		isWords(t, b+"`{}"+b+"`{a}"+b, word(back("")), word(back("a")))
		isWords(t, "a'b'"+b+"'c'd", word(plain("a"), quoted("b")), word(quoted("c"), plain("d")))
	}
	// Other bytes part no words.
	isWords(t, "a\rb\vc\fd\x00e\u00a0f\u0085g", word(plain("a\rb\vc\fd\x00e\u00a0f\u0085g")))
}

// pieces is a piece of each kind, with a text that has it. None goes on with what stands behind it but for a Plain with a Plain, a Quoted with a Quoted.
func pieces() (list []lex.Piece, text []string) {
	return []lex.Piece{plain("-a"), quoted("b c"), variable("x"), variable("y"), subst("z", "%.c", "%.o"), back("echo a")},
		[]string{"-a", "'b c'", "$x", "${y}", "${z:%.c=%.o}", "`{echo a}"}
}

func TestWordsOfOneAndTwoPieces(t *testing.T) {
	list, text := pieces()
	for i, p := range list {
		isWord(t, text[i], p)
		isWords(t, " "+text[i]+"\n", word(p))
		for k, q := range list {
			isWords(t, text[i]+" "+text[k], word(p), word(q))
			switch {
			case i == k && p.Kind == lex.Plain:
				isWord(t, text[i]+text[k], plain("-a-a"))
			case i == k && p.Kind == lex.Quoted:
				isWord(t, text[i]+text[k], quoted("b c'b c"))
			default:
				isWord(t, text[i]+text[k], p, q)
			}
		}
	}
}

func TestWordsOfManyPieces(t *testing.T) {
	list, text := pieces()
	isWord(t, strings.Join(text, ""), list...)
	isWords(t, strings.Join(text, " "), word(list[0]), word(list[1]), word(list[2]), word(list[3]), word(list[4]), word(list[5]))
	all := strings.Join(text, "")
	isWord(t, all+all, append(list, list...)...)
	isWords(t, all+"\t"+all+" "+all, list, list, list)
	isWord(t, "a'b'$c${d}${e:f=g}`{h}i'j'", plain("a"), quoted("b"), variable("c"), variable("d"), subst("e", "f", "g"), back("h"), plain("i"), quoted("j"))
	isWord(t, "`{a}`{b}$c$d${e}${f}'g'h'i'", back("a"), back("b"), variable("c"), variable("d"), variable("e"), variable("f"), quoted("g"), plain("h"), quoted("i"))
}

func TestWordsOfPlain(t *testing.T) {
	for _, s := range []string{"a", "abc", "a#b", "#", "# c", "\\", "\\\\", "a\\b", "a=b", "=", "==", "a:b", ":", "::", "{", "}", "{}", "{a}", "}{", "a{b}c", "a:b=c", "{a:b=c}", "%.o", "&.c", "\"a\"", "<|;&()[]*?^~", "\x00\x01\x7f\x80\xff", "\u00e9"} {
		var want [][]lex.Piece
		for _, f := range strings.Split(s, " ") {
			want = append(want, word(plain(f)))
		}
		isWords(t, s, want...)
	}
	// A backslash takes nothing from what stands behind it.
	isWord(t, "\\$x", plain("\\"), variable("x"))
	isWord(t, "\\'a'", plain("\\"), quoted("a"))
	isWords(t, "\\ a", word(plain("\\")), word(plain("a")))
	isWord(t, "\\`{a}", plain("\\"), back("a"))
	isNoWords(t, "\\'", api.ErrQuote)
	isNoWords(t, "\\$", api.ErrName)
	isNoWords(t, "\\`", api.ErrForm)
	// Nor does a sharp.
	isWords(t, "#'a b'", word(plain("#"), quoted("a b")))
	isNoWords(t, "# '", api.ErrQuote)
}

func TestWordsOfQuoted(t *testing.T) {
	isWord(t, "''", quoted(""))
	isWord(t, "'a'", quoted("a"))
	isWord(t, "a''", plain("a"), quoted(""))
	isWord(t, "''a", quoted(""), plain("a"))
	isWord(t, "a''b", plain("a"), quoted(""), plain("b"))
	isWords(t, "'' ''", word(quoted("")), word(quoted("")))
	// Two quotes for one.
	isWord(t, "''''", quoted("'"))
	isWord(t, "''''''", quoted("''"))
	isWord(t, "'it''s'", quoted("it's"))
	isWord(t, "'a''b''c'", quoted("a'b'c"))
	isWord(t, "'''a'''", quoted("'a'"))
	isWord(t, "'a'''''", quoted("a''"))
	isWord(t, "x'it''s'y", plain("x"), quoted("it's"), plain("y"))
	// What stands within means nothing.
	isWord(t, "' '", quoted(" "))
	isWord(t, "'a \t\nb'", quoted("a \t\nb"))
	isWord(t, "'$'", quoted("$"))
	isWord(t, "'$x'", quoted("$x"))
	isWord(t, "'${'", quoted("${"))
	isWord(t, "'${x:a=b}'", quoted("${x:a=b}"))
	isWord(t, "'`'", quoted("`"))
	isWord(t, "'`{a b}'", quoted("`{a b}"))
	isWord(t, "'#\\=:{}'", quoted("#\\=:{}"))
	isWord(t, "'\\'", quoted("\\"))
	isWord(t, "'\x00\xff'", quoted("\x00\xff"))
	isWord(t, "'''$x'' `{'", quoted("'$x' `{"))
	// No end.
	for _, s := range []string{"'", "'a", "a'", " '", "' ", "'a b", "'''", "'a''", "'''''", "'a' '", "'a'' b", "''a'", "$x'", "${x}'", "`{a}'", "a'$", "'`{a}", "'\n", "'${x}"} {
		isNoWords(t, s, api.ErrQuote)
	}
}

func TestWordsOfVarsWithoutABracket(t *testing.T) {
	isWord(t, "$x", variable("x"))
	isWord(t, "$_", variable("_"))
	isWord(t, "$0", variable("0"))
	isWord(t, "$1a", variable("1a"))
	isWord(t, "$aZ_09", variable("aZ_09"))
	isWord(t, "a$x", plain("a"), variable("x"))
	for _, name := range []string{"x", "CFLAGS", name12} {
		v := variable(name)
		isWord(t, "$"+name, v)
		isWords(t, " $"+name+" ", word(v))
		isWords(t, "$"+name+"\t$"+name, word(v), word(v))
		isWords(t, "$"+name+"\nb", word(v), word(plain("b")))
		isWord(t, "$"+name+"'b'", v, quoted("b"))
		isWord(t, "$"+name+"$"+name, v, v)
		isWord(t, "$"+name+"${"+name+"}", v, v)
		isWord(t, "$"+name+"`{b}", v, back("b"))
		isWord(t, "$"+name+"}", v, plain("}"))
		isWord(t, "$"+name+"{b}", v, plain("{b}"))
		isWord(t, "$"+name+":b=c", v, plain(":b=c"))
		isWord(t, "$"+name+".o", v, plain(".o"))
		isWord(t, "$"+name+"-x", v, plain("-x"))
		isWord(t, "$"+name+"\\", v, plain("\\"))
		isWord(t, "$"+name+"\xff", v, plain("\xff"))
	}
	// No name.
	for _, behind := range []string{"", " ", "\t", "\n", "'", "'a'", "$", "$x", "`", "`{a}", "}", ":", "=", "-", ".x", "%", "#", "\\", "(x)", "\x00", "\xff", "\u00e9"} {
		isNoWords(t, "$"+behind, api.ErrName)
		isNoWords(t, "a $"+behind, api.ErrName)
		isNoWords(t, "$x$"+behind, api.ErrName)
	}
	// Too many bytes.
	for _, behind := range []string{"", " ", "'", "'a'", "$", "}", "a", "0", "_", "-", "`"} {
		isNoWords(t, "$"+name13+behind, api.ErrName)
		isNoWords(t, "a$"+name13+behind, api.ErrName)
	}
	isNoWords(t, "$"+strings.Repeat("x", 1<<16), api.ErrName)
}

func TestWordsOfVarsWithBrackets(t *testing.T) {
	for _, name := range []string{"x", "_", "0", "1a", "CFLAGS", name12} {
		v := variable(name)
		isWord(t, "${"+name+"}", v)
		isWord(t, "a${"+name+"}b", plain("a"), v, plain("b"))
		isWord(t, "${"+name+"}0", v, plain("0"))
		isWord(t, "${"+name+"}}", v, plain("}"))
		isWord(t, "${"+name+"}'a'$x", v, quoted("a"), variable("x"))
		// No bracket that closes.
		isNoWords(t, "${"+name, api.ErrForm)
		isNoWords(t, "a ${"+name, api.ErrForm)
		// A byte behind the name that cannot be there.
		for _, behind := range []string{" ", "\t", "\n", "'", "'a'", "$", "$x", "`", "{", "{}", "=", "=b", "-", ".", "%", "#", "\\", "(", "\x00", "\xff", "\u00e9"} {
			isNoWords(t, "${"+name+behind, api.ErrForm)
			isNoWords(t, "${"+name+behind+"}", api.ErrForm)
			isNoWords(t, "${"+name+behind+":a=b}", api.ErrForm)
		}
	}
	// No name.
	for _, behind := range []string{"", "}", " ", " x}", "\t", "\n", "'", "'x'}", "$", "$x}", "${x}}", "`", "{", "{x}", ":", ":a=b}", ":}", "=", "-", "-x}", ".}", "\x00}", "\xff}", "\u00e9}"} {
		isNoWords(t, "${"+behind, api.ErrName)
		isNoWords(t, "a${"+behind, api.ErrName)
	}
	// Too many bytes, whatever is behind them.
	for _, behind := range []string{"", "}", " ", "'", "$", "`", "{", "a}", "_}", "-}", ":", ":a=b}", "="} {
		isNoWords(t, "${"+name13+behind, api.ErrName)
	}
	isNoWords(t, "${"+strings.Repeat("x", 1<<16)+"}", api.ErrName)
}

func TestWordsOfSubsts(t *testing.T) {
	isWord(t, "${y:%.c=%.o}", subst("y", "%.c", "%.o"))
	isWord(t, "a${y:%.c=%.o}b", plain("a"), subst("y", "%.c", "%.o"), plain("b"))
	isWord(t, "${y:a=b}}", subst("y", "a", "b"), plain("}"))
	isWord(t, "${y:a=b}=c", subst("y", "a", "b"), plain("=c"))
	isWord(t, "${y:a=b}${y:c=d}", subst("y", "a", "b"), subst("y", "c", "d"))
	// Empty patterns.
	isWord(t, "${y:=}", subst("y", "", ""))
	isWord(t, "${y:a=}", subst("y", "a", ""))
	isWord(t, "${y:=b}", subst("y", "", "b"))
	// A second colon, and more of them, are bytes of the patterns.
	isWord(t, "${y::=}", subst("y", ":", ""))
	isWord(t, "${y:=:}", subst("y", "", ":"))
	isWord(t, "${y:a:b=c}", subst("y", "a:b", "c"))
	isWord(t, "${y:a=b:c}", subst("y", "a", "b:c"))
	isWord(t, "${y:::=::}", subst("y", "::", "::"))
	// Other bytes of patterns.
	isWord(t, "${y:#\\=\\#}", subst("y", "#\\", "\\#"))
	isWord(t, "${y:&\"(x)=<|;[*]?^~>}", subst("y", "&\"(x)", "<|;[*]?^~>"))
	isWord(t, "${y:\x00\xff=\r\v\f\u00a0}", subst("y", "\x00\xff", "\r\v\f\u00a0"))
	isWord(t, "${y:x=y}", subst("y", "x", "y"))
	// Names.
	isWord(t, "${"+name12+":a=b}", subst(name12, "a", "b"))
	isNoWords(t, "${"+name13+":a=b}", api.ErrName)
	isNoWords(t, "${:a=b}", api.ErrName)
	isNoWords(t, "${:=}", api.ErrName)
	isNoWords(t, "${ :a=b}", api.ErrName)
	isNoWords(t, "${-y:a=b}", api.ErrName)
	// No colon.
	isNoWords(t, "${y=}", api.ErrForm)
	isNoWords(t, "${y=b}", api.ErrForm)
	isNoWords(t, "${y a=b}", api.ErrForm)
	isNoWords(t, "${y-:a=b}", api.ErrForm)
	isNoWords(t, "${y.a=b}", api.ErrForm)
	// No equals sign.
	isNoWords(t, "${y:}", api.ErrForm)
	isNoWords(t, "${y:a}", api.ErrForm)
	isNoWords(t, "${y:a:b}", api.ErrForm)
	isNoWords(t, "${y:a} =b}", api.ErrForm)
	// No bracket that closes.
	for _, s := range []string{"${y:", "${y:a", "${y:=", "${y:a=", "${y:=b", "${y:a=b", "${y:a=b ", "${y:a=b ${y}", "${y:a=b'}'"} {
		isNoWords(t, s, api.ErrForm)
	}
	// A second equals sign.
	for _, s := range []string{"${y:==}", "${y:a==b}", "${y:a=b=}", "${y:a=b=c}", "${y:==", "${y:a:b=c:d=}"} {
		isNoWords(t, s, api.ErrForm)
	}
}

func TestWordsOfPatternsOfEachByte(t *testing.T) {
	for b := range 256 {
		one := string([]byte{byte(b)})
		for _, pattern := range []string{one, one + "b", "a" + one, "a" + one + "b"} {
			from, to := "${y:"+pattern+"=c}", "${y:c="+pattern+"}"
			switch {
			case !strings.Contains(" \t\n'$`={}", one):
				isWord(t, from, subst("y", pattern, "c"))
				isWord(t, to, subst("y", "c", pattern))
			case one == "}" && pattern == one:
				isNoWords(t, from, api.ErrForm)
				isWord(t, to, subst("y", "c", ""), plain("}"))
			case one == "}":
				isNoWords(t, from, api.ErrForm)
				cut := strings.IndexByte(pattern, '}')
				isWord(t, to, subst("y", "c", pattern[:cut]), plain(pattern[cut+1:]+"}"))
			default:
				isNoWords(t, from, api.ErrForm)
				isNoWords(t, to, api.ErrForm)
			}
		}
	}
}

func TestWordsOfBacks(t *testing.T) {
	isWord(t, "`{}", back(""))
	isWord(t, "`{a}", back("a"))
	isWord(t, "`{echo a}", back("echo a"))
	isWord(t, "a`{b}", plain("a"), back("b"))
	isWord(t, "`{a}b", back("a"), plain("b"))
	isWord(t, "`{a}`{b}", back("a"), back("b"))
	isWord(t, "`{}`{}", back(""), back(""))
	isWord(t, "`{a}}", back("a"), plain("}"))
	isWord(t, "`{a}{b}", back("a"), plain("{b}"))
	// What stands within means nothing.
	isWord(t, "`{ }", back(" "))
	isWord(t, "`{ a \t b\n}", back(" a \t b\n"))
	isWord(t, "`{\n\n}", back("\n\n"))
	isWord(t, "`{'}", back("'"))
	isWord(t, "`{a 'b c'}", back("a 'b c'"))
	isWord(t, "`{''''}", back("''''"))
	isWord(t, "`{$}", back("$"))
	isWord(t, "`{$x $}", back("$x $"))
	isWord(t, "`{`}", back("`"))
	isWord(t, "`{a `b` c}", back("a `b` c"))
	isWord(t, "`{#\\=:}", back("#\\=:"))
	isWord(t, "`{\x00\xff}", back("\x00\xff"))
	// A bracket within.
	isNoWords(t, "`{{}", api.ErrForm)
	isNoWords(t, "`{a{b}", api.ErrForm)
	isNoWords(t, "`{a{b}c}", api.ErrForm)
	isNoWords(t, "`{${x}}", api.ErrForm)
	isNoWords(t, "`{'{'}", api.ErrForm)
	isNoWords(t, "`{`{a}}", api.ErrForm)
	isNoWords(t, "`{a{", api.ErrForm)
	isWord(t, "`{'}'}'", back("'"), quoted("}"))
	// No bracket that opens.
	for _, s := range []string{"`", "a`", "` ", "`a", "`a}", "`}", "``", "``{a}", "` {a}", "`'a'", "`'", "`$x", "`$", "`\n{a}", "`\x00{a}", "`a`"} {
		isNoWords(t, s, api.ErrForm)
	}
	// No bracket that closes.
	for _, s := range []string{"`{", "`{a", "`{a b", "`{ ", "`{\n", "`{'a'", "`{`", "`{$x", "`{a ", "a `{"} {
		isNoWords(t, s, api.ErrForm)
	}
}

func TestWordsOfTwoFaults(t *testing.T) {
	faults := []struct {
		text string
		err  error
	}{
		{"'a", api.ErrQuote},
		{"$", api.ErrName},
		{"$-", api.ErrName},
		{"$" + name13, api.ErrName},
		{"${", api.ErrName},
		{"${}", api.ErrName},
		{"${" + name13 + "}", api.ErrName},
		{"${" + name13 + ":", api.ErrName},
		{"${x", api.ErrForm},
		{"${x-", api.ErrForm},
		{"${x:a}", api.ErrForm},
		{"${x:a=b=", api.ErrForm},
		{"`", api.ErrForm},
		{"`a", api.ErrForm},
		{"`{a", api.ErrForm},
		{"`{{", api.ErrForm},
	}
	for _, f := range faults {
		isNoWords(t, f.text, f.err)
		isNoWords(t, "a 'b' $c "+f.text, f.err)
		for _, g := range faults {
			if f.err == api.ErrQuote && g.err == api.ErrQuote {
				// The second one's quote is the first one's end.
				continue
			}
			isNoWords(t, f.text+" "+g.text, f.err)
			isNoWords(t, "a "+f.text+" b "+g.text+" c", f.err)
		}
	}
	isNoWords(t, "'a '$ 'b", api.ErrName)
	isNoWords(t, "'a' '$ `", api.ErrQuote)
	// What stands within a piece that isn't right is no piece.
	isNoWords(t, "${x'", api.ErrForm)
	isNoWords(t, "${x$", api.ErrForm)
	isNoWords(t, "${x:a'", api.ErrForm)
	isNoWords(t, "${x:a=$", api.ErrForm)
	isNoWords(t, "`'", api.ErrForm)
	isNoWords(t, "`{'", api.ErrForm)
	isNoWords(t, "`{$", api.ErrForm)
	isNoWords(t, "$'", api.ErrName)
	isNoWords(t, "$`", api.ErrName)
	isNoWords(t, "${'", api.ErrName)
	isNoWords(t, "${`{", api.ErrName)
	isNoWords(t, "'$", api.ErrQuote)
	isNoWords(t, "'${x", api.ErrQuote)
	isNoWords(t, "'`", api.ErrQuote)
}

func TestWordsOfGreatTexts(t *testing.T) {
	const many = 1 << 18
	isWord(t, strings.Repeat("a", many), plain(strings.Repeat("a", many)))
	isWord(t, "'"+strings.Repeat("''", many)+"'", quoted(strings.Repeat("'", many)))
	isWord(t, "`{"+strings.Repeat("$ ", many)+"}", back(strings.Repeat("$ ", many)))
	isWord(t, "${x:"+strings.Repeat(":", many)+"="+strings.Repeat("a", many)+"}", subst("x", strings.Repeat(":", many), strings.Repeat("a", many)))
	isWords(t, strings.Repeat(" \n\t", many))
	isNoWords(t, "'"+strings.Repeat("''", many), api.ErrQuote)
	isNoWords(t, "`{"+strings.Repeat("a", many), api.ErrForm)
	isNoWords(t, strings.Repeat("$x ", many)+"$", api.ErrName)
	got, err := lex.Words(strings.Repeat("a$x'b c' ", many))
	if err != nil || len(got) != many || lex.Text(got[many-1]) != "a${x}'b c'" {
		t.Fatalf("Words of many words are %d (%v)", len(got), err)
	}
	got, err = lex.Words(strings.Repeat("${x}`{}", many))
	if err != nil || len(got) != 1 || len(got[0]) != 2*many || len(lex.Text(got[0])) != 7*many {
		t.Fatalf("Words of many pieces are %d (%v)", len(got), err)
	}
}
