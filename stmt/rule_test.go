package stmt_test

import (
	"strconv"
	"strings"
	"testing"

	"millwright/api"
	"millwright/lex"
	"millwright/lines"
)

// wordsOf is a text's words, as layer 13 reads them.
func wordsOf(t *testing.T, text string) [][]lex.Piece {
	t.Helper()
	words, err := lex.Words(text)
	if err != nil {
		t.Fatalf("Words(%s) has %v", shown(text), err)
	}
	return words
}

// P19.1, of Rule

func TestRuleByHand(t *testing.T) {
	gives(t, "a:V: b", with(rule(row("a"), row("b")), 128, ""))
	gives(t, "a: b", rule(row("a"), row("b")))
	gives(t, "a:", rule(row("a"), nil))
	gives(t, "a :", rule(row("a"), nil))
	gives(t, "a b: c d", rule(row("a", "b"), row("c", "d")))
	gives(t, "a\tb : c", rule(row("a", "b"), row("c")))
	gives(t, "a:\tb", rule(row("a"), row("b")))
	gives(t, "%.o: %.c", rule(row("%.o"), row("%.c")))
	gives(t, "a$x 'b c': `{d} ${e:f=g}", rule(rows(word(plain("a"), variable("x")), word(quoted("b c"))), rows(word(back("d")), word(subst("e", "f", "g")))))
	gives(t, "'': ''", rule(rows(word(quoted(""))), rows(word(quoted("")))))
	gives(t, "a: b:c :d:", rule(row("a"), row("b:c", ":d:")))
	gives(t, "\xff: \x00", rule(row("\xff"), row("\x00")))
}

func TestRuleWithoutHeads(t *testing.T) {
	for _, text := range []string{":", ": a", ":\ta", ":V: a", ":V:", "::", ":: a", ":a", ":V", ":Px", ":Vx: a", ": 'a", ": $"} {
		wrong(t, text, api.ErrForm)
		// No text gives a line with blanks ahead.
		wrong(t, " "+text, api.ErrForm)
		wrong(t, "\t \t"+text, api.ErrForm)
		wrong(t, "\n"+text, api.ErrForm)
	}
}

// Where the words ahead have an error there is no sign: the line's words tell that error.
func TestRuleWithHeadsThatHaveAnError(t *testing.T) {
	for text, want := range map[string]error{
		"'a: b":     api.ErrQuote,
		"a 'b: c":   api.ErrQuote,
		"$: a":      api.ErrName,
		"a $ b: c":  api.ErrName,
		"${}: a":    api.ErrName,
		"${a: b":    api.ErrForm,
		"${a:b}: c": api.ErrForm,
		"`a: b":     api.ErrForm,
		"`{a: b":    api.ErrForm,
		"a `: b":    api.ErrForm,
		"$ 'a: b":   api.ErrName,
		"'a $: b":   api.ErrQuote,
		"`:V: $":    api.ErrForm,
		"$:Vx: 'a":  api.ErrName,
		"$ = a":     api.ErrName,
		"` = a":     api.ErrForm,
		"'x = a":    api.ErrQuote,
	} {
		wrong(t, text, want)
	}
}

// Right behind the colon stands a blank, a tab or the line's end: there are no attributes, and all behind is Words.
func TestRuleWithoutAttributes(t *testing.T) {
	for _, blank := range []string{" ", "\t", "  ", " \t"} {
		gives(t, "a:"+blank+"V: b", rule(row("a"), row("V:", "b")))
		gives(t, "a:"+blank+": b", rule(row("a"), row(":", "b")))
		gives(t, "a:"+blank+"x:y", rule(row("a"), row("x:y")))
		gives(t, "a:"+blank+"V", rule(row("a"), row("V")))
		gives(t, "a:"+blank, rule(row("a"), nil))
	}
	gives(t, "a:", rule(row("a"), nil))
}

func TestRuleOfEachLetter(t *testing.T) {
	const letters = "DENnQRUV"
	for i := range len(letters) {
		for _, needs := range []string{"", " ", " b", "b", "\tb c", " b: c"} {
			gives(t, "a:"+letters[i:i+1]+":"+needs, with(rule(row("a"), wordsOf(t, needs)), 1<<i, ""))
		}
		for k := range len(letters) {
			gives(t, "a:"+letters[i:i+1]+letters[k:k+1]+": b", with(rule(row("a"), row("b")), 1<<i|1<<k, ""))
		}
	}
	gives(t, "a:DENnQRUV: b", with(rule(row("a"), row("b")), 255, ""))
	gives(t, "a:VVVV: b", with(rule(row("a"), row("b")), 128, ""))
	gives(t, "a b:VQ:c d", with(rule(row("a", "b"), row("c", "d")), 144, ""))
}

func TestRuleWithAProgram(t *testing.T) {
	gives(t, "a:Pcmp -s: b", with(rule(row("a"), row("b")), 0, "cmp -s"))
	gives(t, "a:VQPcmp: b", with(rule(row("a"), row("b")), 144, "cmp"))
	gives(t, "a:PV: b", with(rule(row("a"), row("b")), 0, "V"))
	gives(t, "a:P : b", with(rule(row("a"), row("b")), 0, " "))
	gives(t, "a:P\tc :b", with(rule(row("a"), row("b")), 0, "\tc "))
	gives(t, "a:Pa=b: c", with(rule(row("a"), row("c")), 0, "a=b"))
	gives(t, "a:P$: c", with(rule(row("a"), row("c")), 0, "$"))
	gives(t, "a:P`{: c", with(rule(row("a"), row("c")), 0, "`{"))
	for n := 1; n <= api.MaxWord; n++ {
		prog := strings.Repeat("p", n)
		gives(t, "a:VP"+prog+": b", with(rule(row("a"), row("b")), 128, prog))
	}
	for _, n := range []int{api.MaxWord + 1, api.MaxWord + 2, 300, 5000} {
		wrong(t, "a:P"+strings.Repeat("p", n)+": b", api.ErrLong)
		wrong(t, "a:VP"+strings.Repeat("p", n)+":", api.ErrLong)
	}
}

func TestRuleWithWrongLetters(t *testing.T) {
	for _, letters := range []string{"x", "v", "Vx", "xV", "P", "VP", "V ", "V Q", "VxPcmp", "xPcmp", "=", "=V", "'V'", "$V", "0", "-", "V\t", "\xff"} {
		wrong(t, "a:"+letters+": b", api.ErrAttr)
		wrong(t, "a:"+letters+":", api.ErrAttr)
	}
}

// Each byte right behind the colon, and behind a right letter.
func TestRuleOfEachByteBehindTheColon(t *testing.T) {
	const letters = "DENnQRUV"
	for b := range 256 {
		s := string([]byte{byte(b)})
		switch at := strings.Index(letters, s); {
		case s == " " || s == "\t":
			gives(t, "a:"+s+"b", rule(row("a"), row("b")))
			gives(t, "a:"+s+": b", rule(row("a"), row(":", "b")))
			wrong(t, "a:V"+s+": b", api.ErrAttr)
		case s == ":":
			gives(t, "a:"+s+"b", rule(row("a"), row("b")))
			gives(t, "a:V"+s+" b", with(rule(row("a"), row("b")), 128, ""))
		case at >= 0:
			gives(t, "a:"+s+": b", with(rule(row("a"), row("b")), 1<<at, ""))
			gives(t, "a:V"+s+": b", with(rule(row("a"), row("b")), 128|1<<at, ""))
			wrong(t, "a:"+s, api.ErrAttr)
		default:
			wrong(t, "a:"+s+": b", api.ErrAttr)
			wrong(t, "a:V"+s+": b", api.ErrAttr)
			wrong(t, "a:"+s, api.ErrAttr)
			wrong(t, "a:"+s+" b", api.ErrAttr)
		}
	}
}

func TestRuleWithNothingBetweenTwoColons(t *testing.T) {
	gives(t, "a::", rule(row("a"), nil))
	gives(t, "a:: b", rule(row("a"), row("b")))
	gives(t, "a::b", rule(row("a"), row("b")))
	gives(t, "a::b:c", rule(row("a"), row("b:c")))
	gives(t, "a:::", rule(row("a"), row(":")))
	gives(t, "a::V: b", rule(row("a"), row("V:", "b")))
}

func TestRuleWithoutANextColon(t *testing.T) {
	for _, behind := range []string{"b", "V", "VQ", "Vb c", "P", "Pcmp", "V b", "x", "=b", "'b'", "'b", "$", "${", "`", "\n", "V 'b", strings.Repeat("V", 5000), "P" + strings.Repeat("p", 5000)} {
		wrong(t, "a:"+behind, api.ErrAttr)
	}
}

// The attributes are no words: the next colon ends them wherever it stands.
func TestRuleWithANextColonWithinAQuote(t *testing.T) {
	wrong(t, "a:'V:' b", api.ErrAttr)
	wrong(t, "a:':': b", api.ErrAttr)
	wrong(t, "a:'b:c': d", api.ErrAttr)
	wrong(t, "a:V'b:c'", api.ErrAttr)
	gives(t, "a:P'b:c", with(rule(row("a"), row("c")), 0, "'b"))
	gives(t, "a:P'b:c 'd e'", with(rule(row("a"), rows(word(plain("c")), word(quoted("d e")))), 0, "'b"))
	gives(t, "a:P'b:c' d'", with(rule(row("a"), rows(word(plain("c"), quoted(" d")))), 0, "'b"))
	gives(t, "a:P${b:c=d}", with(rule(row("a"), row("c=d}")), 0, "${b"))
	gives(t, "a:P`{b:c}", with(rule(row("a"), row("c}")), 0, "`{b"))
	// A quote that the colon cuts has its end alone behind it, which begins a quote.
	wrong(t, "a:P'b:c' d", api.ErrQuote)
	wrong(t, "a:P'b:c': d", api.ErrQuote)
	// Behind the next colon quotes hide what they always do.
	gives(t, "a:V:':' b", with(rule(row("a"), rows(word(quoted(":")), word(plain("b")))), 128, ""))
}

func TestRuleWithWordsThatHaveAnError(t *testing.T) {
	for _, head := range []string{"a: ", "a b :\t", "a:V:", "a:V: ", "a::", "a:VPcmp: "} {
		for needs, want := range map[string]error{
			"'b":      api.ErrQuote,
			"b 'c''":  api.ErrQuote,
			"$":       api.ErrName,
			"b $ 'c":  api.ErrName,
			"${}":     api.ErrName,
			"${b":     api.ErrForm,
			"`":       api.ErrForm,
			"b c`{d":  api.ErrForm,
			"b 'c $d": api.ErrQuote,
		} {
			wrong(t, head+needs, want)
		}
	}
}

// Of several errors of one Rule: no Heads, no next colon, the attributes', the Words'.
func TestRuleOfSeveralErrors(t *testing.T) {
	long := strings.Repeat("p", api.MaxWord+1)
	for text, want := range map[string]error{
		":b":                    api.ErrForm,
		":Vx":                   api.ErrForm,
		":Vx: 'b":               api.ErrForm,
		":P" + long + ": $":     api.ErrForm,
		": 'b":                  api.ErrForm,
		"a:Vx":                  api.ErrAttr,
		"a:b 'c":                api.ErrAttr,
		"a:V$":                  api.ErrAttr,
		"a:P" + long:            api.ErrAttr,
		"a:Vx: 'b":              api.ErrAttr,
		"a:P: $":                api.ErrAttr,
		"a:P" + long + ": 'b":   api.ErrLong,
		"a:P" + long + ": $":    api.ErrLong,
		"a:xP" + long + ": $":   api.ErrAttr,
		"$ a:P" + long + ": 'b": api.ErrName,
		"a:V: $ 'b":             api.ErrName,
	} {
		wrong(t, text, want)
	}
}

func TestRuleOfManyWords(t *testing.T) {
	for _, n := range []int{api.MaxWords, api.MaxWords + 1, 10000} {
		texts := strings.Fields(strings.Repeat("ab ", n))
		all := strings.Join(texts, " ")
		gives(t, all+": "+all, rule(row(texts...), row(texts...)))
		gives(t, all+":V:"+all, with(rule(row(texts...), row(texts...)), 128, ""))
	}
}

// P19.1, of a Rule's Recipe

func TestRecipe(t *testing.T) {
	a := rule(row("a"), row("b"))
	x := assign("x", row("c")...)
	isOf(t, "a: b", on(1, a))
	isOf(t, "a: b\n", on(1, a))
	isOf(t, "a: b\n\tmake", on(1, made(a, "make\n")))
	isOf(t, "a: b\n make\n", on(1, made(a, "make\n")))
	isOf(t, "a: b\n\tmake\n\trun\n", on(1, made(a, "make\nrun\n")))
	isOf(t, "a: b\n\t\tmake\n \trun  \n\t  it", on(1, made(a, "\tmake\n\trun  \n  it\n")))
	isOf(t, "a: b\n\t", on(1, made(a, "\n")))
	isOf(t, "a: b\n\t\n", on(1, made(a, "\n")))
	isOf(t, "a: b\n\t\n \n\t\n", on(1, made(a, "\n\n\n")))
	isOf(t, "a: b\n\t \t \n\tmake\n  \n", on(1, made(a, " \t \nmake\n \n")))
	isOf(t, "a: b\n\tx = c\n\t<inc\n\tc: d\n\t'\n\t$\n", on(1, made(a, "x = c\n<inc\nc: d\n'\n$\n")))
	isOf(t, "a: b\n\t# no comment\n\tmake \\\n\trun\n", on(1, made(a, "# no comment\nmake \\\nrun\n")))
	isOf(t, "a: \\\nb\n\tmake\n", on(1, made(a, "make\n")))
	isOf(t, "a:V: b\n\tmake\n", on(1, made(with(a, 128, ""), "make\n")))
	isOf(t, "a: b\nx = c\n", on(1, a), on(2, x))
	isOf(t, "a: b\n\tmake\nx = c\n", on(1, made(a, "make\n")), on(3, x))
	isOf(t, "a: b\n\tmake\na: b\n\trun\n\n", on(1, made(a, "make\n")), on(3, made(a, "run\n")))
	isOf(t, "a: b\na: b\n\trun\n", on(1, a), on(2, made(a, "run\n")))
}

// Any line between ends a recipe: what follows it belongs to no rule.
func TestRecipeWithAnotherLineBetween(t *testing.T) {
	a := rule(row("a"), row("b"))
	x := assign("x", row("c")...)
	for _, between := range []string{"\n", "\n\n", "# c\n", "# c\\\n", "\\\n\n", "\\\n # c\n"} {
		n := lines.Count(between)
		isOf(t, "a: b\n\tmake\n"+between, on(1, made(a, "make\n")))
		isOf(t, "a: b\n\tmake\n"+between+"\t\n \t \n", on(1, made(a, "make\n")))
		isOf(t, "a: b\n\tmake\n"+between+"\t\nx = c\n", on(1, made(a, "make\n")), on(4+n, x))
		isOf(t, "a: b\n"+between+"\t\nx = c\n", on(1, a), on(3+n, x))
		isWrongOf(t, "a: b\n\tmake\n"+between+"\trun\n", 3+n, api.ErrForm)
		isWrongOf(t, "a: b\n"+between+"\trun\n", 2+n, api.ErrForm)
		isWrongOf(t, "a: b\n"+between+"\t\n\trun\n", 3+n, api.ErrForm)
	}
	// A blank begins a recipe line, whatever stands behind it.
	isOf(t, "a: b\n\tmake\n  # c\n\trun\n", on(1, made(a, "make\n # c\nrun\n")))
	isOf(t, "a: b\n\tmake\nx = c\n\t\n", on(1, made(a, "make\n")), on(3, x))
	isWrongOf(t, "a: b\n\tmake\nx = c\n\trun\n", 4, api.ErrForm)
	isWrongOf(t, "a: b\n\tmake\n<inc\n\trun\n", 4, api.ErrForm)
	isOf(t, "a: b\n\tmake\nx = c\na: b\n\trun\n", on(1, made(a, "make\n")), on(3, x), on(4, made(a, "run\n")))
}

func TestRecipeOfManyLines(t *testing.T) {
	var list []lines.Line
	var want strings.Builder
	list = append(list, logical(1, "a: b"))
	for i := range 1 << 18 {
		text := "make " + strconv.Itoa(i)
		list = append(list, recipe(i+2, text))
		want.WriteString(text + "\n")
	}
	isParsed(t, list, on(1, made(rule(row("a"), row("b")), want.String())))
	isParsed(t, append(list, logical(9, "c:")), on(1, made(rule(row("a"), row("b")), want.String())), on(9, rule(row("c"), nil)))
	isFault(t, append(list, logical(9, ""), recipe(10, "x")), 10, api.ErrForm)
}
