package stmt_test

import (
	"strings"
	"testing"

	"millwright/api"
)

// P19.1, of Assign

func TestAssignByHand(t *testing.T) {
	gives(t, "x = a b", assign("x", row("a", "b")...))
	gives(t, "x=a", assign("x", row("a")...))
	gives(t, "x=", assign("x"))
	gives(t, "x =", assign("x"))
	gives(t, "x = ", assign("x"))
	gives(t, "x=\t \t", assign("x"))
	gives(t, "x = 'a b' c$d", assign("x", word(quoted("a b")), word(plain("c"), variable("d"))))
	gives(t, "x = ''", assign("x", word(quoted(""))))
	gives(t, "x = ${y:%.c=%.o} `{ls}", assign("x", word(subst("y", "%.c", "%.o")), word(back("ls"))))
	gives(t, "x\t=\ta\tb", assign("x", row("a", "b")...))
	gives(t, "x = \xff \x00", assign("x", row("\xff", "\x00")...))
}

func TestAssignOfNames(t *testing.T) {
	for _, name := range []string{"x", "X", "_", "0", "9", "a_1", "007", "CFLAGS", "U", "UU", "abcdefghijk", "abcdefghij_9"} {
		for _, ahead := range []string{name, name + " ", name + "\t", name + " \t  "} {
			gives(t, ahead+"=a", assign(name, row("a")...))
			gives(t, ahead+"= a", assign(name, row("a")...))
			// No text gives a line with blanks ahead.
			gives(t, " \t"+ahead+"=a", assign(name, row("a")...))
		}
	}
}

func TestAssignOfWhatIsNoName(t *testing.T) {
	for _, name := range []string{"", "x y", "x\ty", "x  y z", "x-y", "x.y", "x/", "x+", "-", ".", "%", "x<", "|", "#", "x\\", "\u00e9", "\xff", "x\x00", "$x", "${x}", "$x y", "`{x}", "'x'", "''", "x''", "'x y'", "${x:a=b}", "abcdefghijklm", "abcdefghij_9Z", "x\r", "x\v", "x\ny", "\nx", "x\n"} {
		for _, ahead := range []string{name, name + " ", name + "\t", name + " \t "} {
			wrong(t, ahead+"=a", api.ErrName)
			wrong(t, ahead+"= a", api.ErrName)
			wrong(t, ahead+"=", api.ErrName)
			wrong(t, ahead+"=U= a", api.ErrName)
		}
	}
	wrong(t, "=", api.ErrName)
	wrong(t, "==", api.ErrName)
	wrong(t, " = a", api.ErrName)
	wrong(t, strings.Repeat("x", 1<<20)+" = a", api.ErrName)
}

// Each byte in a Name, alone, ahead of a letter and behind it.
func TestAssignOfEachByteInAName(t *testing.T) {
	const right = "abcdefghijklmnopqrstuvwxyzABCDEFGHIJKLMNOPQRSTUVWXYZ0123456789_"
	for b := range 256 {
		s := string([]byte{byte(b)})
		switch {
		case strings.Contains(right, s):
			gives(t, s+"=a", assign(s, row("a")...))
			gives(t, "x"+s+" = a", assign("x"+s, row("a")...))
			gives(t, s+"x = a", assign(s+"x", row("a")...))
		case s == " " || s == "\t":
			wrong(t, s+"=a", api.ErrName)
			gives(t, "x"+s+"=a", assign("x", row("a")...))
			gives(t, s+"x=a", assign("x", row("a")...))
		case s == "'", s == "$", s == "`", s == ":", s == "=", s == "<":
			// These make the line another one.
		default:
			wrong(t, s+"=a", api.ErrName)
			wrong(t, "x"+s+"=a", api.ErrName)
			wrong(t, s+"x=a", api.ErrName)
			wrong(t, "x"+s+"y=a", api.ErrName)
		}
	}
}

// Signs within pieces are none.
func TestAssignBehindSignsWithinPieces(t *testing.T) {
	// The first sign outside of pieces is a =: the line is an Assign, whose Name is none.
	for _, piece := range []string{"':'", "'='", "'a:b=c'", "${y:a=b}", "${y::=:}", "`{a:b}", "`{a=b}", "':''='"} {
		wrong(t, piece+" = a", api.ErrName)
		wrong(t, piece+"= a: b", api.ErrName)
		wrong(t, "x"+piece+"=a", api.ErrName)
		wrong(t, "x "+piece+" =a", api.ErrName)
		gives(t, "x = "+piece+" : =", assign("x", append(wordsOf(t, piece), row(":", "=")...)...))
	}
	// The first sign outside of pieces is a colon: the line is a Rule.
	for _, piece := range []string{"':'", "'='", "'a:b=c'", "${y:a=b}", "${y::=:}", "`{a:b}", "`{a=b}", "':''='"} {
		gives(t, piece+": a", rule(wordsOf(t, piece), row("a")))
		gives(t, piece+" : a = b", rule(wordsOf(t, piece), row("a", "=", "b")))
		gives(t, "x "+piece+": =", rule(append(row("x"), wordsOf(t, piece)...), row("=")))
	}
	// Signs within pieces alone are no sign.
	for _, piece := range []string{"':'", "'='", "'a:b=c'", "${y:a=b}", "`{a:b}", "`{a=b}", "x':=' ${x::=}"} {
		wrong(t, piece, api.ErrForm)
		wrong(t, "x "+piece+" y", api.ErrForm)
	}
}

// Right behind a piece a sign is one.
func TestAssignOfSignsRightBehindPieces(t *testing.T) {
	gives(t, "$x: a", rule(rows(word(variable("x"))), row("a")))
	gives(t, "${x}: a", rule(rows(word(variable("x"))), row("a")))
	gives(t, "'x': a", rule(rows(word(quoted("x"))), row("a")))
	gives(t, "`{x}: a", rule(rows(word(back("x"))), row("a")))
	wrong(t, "$x=a", api.ErrName)
	wrong(t, "${x}=a", api.ErrName)
	wrong(t, "'x'=a", api.ErrName)
	wrong(t, "`{x}=a", api.ErrName)
	// A curly bracket of its own begins no piece.
	wrong(t, "{x:a=b}", api.ErrAttr)
	wrong(t, "x}={", api.ErrName)
}

func TestAssignWithAColon(t *testing.T) {
	gives(t, "x = a: b", assign("x", row("a:", "b")...))
	gives(t, "x =:", assign("x", row(":")...))
	gives(t, "x=:b", assign("x", row(":b")...))
	gives(t, "x = a:V: b", assign("x", row("a:V:", "b")...))
	// The colon comes first.
	gives(t, "x: = a", rule(row("x"), row("=", "a")))
	gives(t, "x : a = b", rule(row("x"), row("a", "=", "b")))
	gives(t, "x: y=z", rule(row("x"), row("y=z")))
	wrong(t, "x:=a", api.ErrAttr)
	wrong(t, "x:= a: b", api.ErrAttr)
}

func TestAssignWithWordsThatHaveAnError(t *testing.T) {
	for text, want := range map[string]error{
		"x = 'a":       api.ErrQuote,
		"x='":          api.ErrQuote,
		"x = a 'b''":   api.ErrQuote,
		"x = $":        api.ErrName,
		"x = a $ 'b":   api.ErrName,
		"x = ${}":      api.ErrName,
		"x = ${y":      api.ErrForm,
		"x = `{a":      api.ErrForm,
		"x = `a":       api.ErrForm,
		"x =U= 'a":     api.ErrQuote,
		"x =U= ${y":    api.ErrForm,
		"x =U= $":      api.ErrName,
		"x = U 'a = b": api.ErrQuote,
		"x =U$= b":     api.ErrName,
		"x =$=U= b":    api.ErrName,
		"x =`=U= b":    api.ErrForm,
		// The Name's error comes first.
		"x y = 'a":   api.ErrName,
		"= ${y":      api.ErrName,
		"x. =U= `":   api.ErrName,
		"${x} = `{a": api.ErrName,
	} {
		wrong(t, text, want)
	}
}

func TestAssignHidden(t *testing.T) {
	for _, between := range []string{"U", " U", "U ", " U ", "\tU\t", " \t U \t ", "UU", " UU", "UUU ", "\tUUUU", strings.Repeat("U", 300)} {
		for _, ahead := range []string{"x", "x ", "U "} {
			name := strings.TrimSpace(ahead)
			gives(t, ahead+"="+between+"= a b", hidden(name, row("a", "b")...))
			gives(t, ahead+"="+between+"=a", hidden(name, row("a")...))
			gives(t, ahead+"="+between+"=", hidden(name))
			gives(t, ahead+"="+between+"= ", hidden(name))
			gives(t, ahead+"="+between+"= 'a b'$c", hidden(name, word(quoted("a b"), variable("c"))))
		}
	}
}

// What stands between two = isn't letters U alone: all behind the first one is Words.
func TestAssignNotHidden(t *testing.T) {
	for _, between := range []string{"", " ", "\t", " \t ", "u", "V", "UV", "VU", "UVU", " U V ", "U U", " U U ", "U\tU", "U  U", "UxU", "U-", "0", "'U'", "U''", "''U", "$U", "${U}", "U$U", "`{U}", "U:", ":U", "U:U", ":", "U\\", "U#", "U\n", "\nU", "U\nU", "U\r", "\u00dc", "\xffU"} {
		gives(t, "x ="+between+"= a b", assign("x", wordsOf(t, between+"= a b")...))
		gives(t, "x ="+between+"=", assign("x", wordsOf(t, between+"=")...))
		gives(t, "x = "+between+" =U= c", assign("x", wordsOf(t, between+" =U= c")...))
	}
	gives(t, "x == a", assign("x", row("=", "a")...))
	gives(t, "x=U", assign("x", row("U")...))
	gives(t, "x = U a", assign("x", row("U", "a")...))
}

// A second = that stands within a piece is none.
func TestAssignWithASecondWithinAPiece(t *testing.T) {
	gives(t, "x =U'=' a", assign("x", word(plain("U"), quoted("=")), word(plain("a"))))
	gives(t, "x = U '=' a", assign("x", word(plain("U")), word(quoted("=")), word(plain("a"))))
	gives(t, "x =U${y:a=b}", assign("x", word(plain("U"), subst("y", "a", "b"))))
	gives(t, "x =U`{=}", assign("x", word(plain("U"), back("="))))
	gives(t, "x = 'U=' = a", assign("x", word(quoted("U=")), word(plain("=")), word(plain("a"))))
	// The next one outside of pieces is the second.
	gives(t, "x =U'='= a", assign("x", word(plain("U"), quoted("="), plain("=")), word(plain("a"))))
	gives(t, "x =U= '=' ${y:a=b}", hidden("x", word(quoted("=")), word(subst("y", "a", "b"))))
}

func TestAssignWithAThird(t *testing.T) {
	gives(t, "x =U= =", hidden("x", row("=")...))
	gives(t, "x =U== a", hidden("x", row("=", "a")...))
	gives(t, "x =U=U= a", hidden("x", row("U=", "a")...))
	gives(t, "x =U= a=b", hidden("x", row("a=b")...))
	gives(t, "x =U=V= a", hidden("x", row("V=", "a")...))
	gives(t, "x ==U= a", assign("x", row("=U=", "a")...))
	gives(t, "x =V=U= a", assign("x", row("V=U=", "a")...))
	gives(t, "x === a", assign("x", row("==", "a")...))
}

// Each byte between two =.
func TestAssignOfEachByteBetween(t *testing.T) {
	for b := range 256 {
		s := string([]byte{byte(b)})
		switch s {
		case "U":
			gives(t, "x ="+s+"= a", hidden("x", row("a")...))
		case " ", "\t":
			gives(t, "x ="+s+"= a", assign("x", row("=", "a")...))
			gives(t, "x ="+s+"U= a", hidden("x", row("a")...))
			gives(t, "x =U"+s+"= a", hidden("x", row("a")...))
			gives(t, "x =U"+s+"U= a", assign("x", row("U", "U=", "a")...))
		case "'":
			wrong(t, "x ="+s+"= a", api.ErrQuote)
			wrong(t, "x =U"+s+"= a", api.ErrQuote)
		case "$":
			wrong(t, "x ="+s+"= a", api.ErrName)
			gives(t, "x ="+s+"U= a", assign("x", word(variable("U"), plain("=")), word(plain("a"))))
		case "`":
			wrong(t, "x ="+s+"= a", api.ErrForm)
			wrong(t, "x =U"+s+"= a", api.ErrForm)
		case "=":
			gives(t, "x =U"+s+"= a", hidden("x", row("=", "a")...))
			gives(t, "x ="+s+"U= a", assign("x", row("=U=", "a")...))
		case "\n":
			gives(t, "x ="+s+"U= a", assign("x", row("U=", "a")...))
			gives(t, "x =U"+s+"= a", assign("x", row("U", "=", "a")...))
		default:
			gives(t, "x ="+s+"= a", assign("x", row(s+"=", "a")...))
			gives(t, "x ="+s+"U= a", assign("x", row(s+"U=", "a")...))
			gives(t, "x =U"+s+"= a", assign("x", row("U"+s+"=", "a")...))
			gives(t, "x =U"+s+"U= a", assign("x", row("U"+s+"U=", "a")...))
		}
	}
}
