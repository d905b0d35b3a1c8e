package attr_test

import (
	"errors"
	"strings"
	"testing"

	"millwright/api"
	"millwright/attr"
)

// P18.1, of Parse

func isParsed(t *testing.T, s string, flags int, prog string) {
	t.Helper()
	got, err := attr.Parse(s)
	if want := (attr.Attr{Flags: flags, Prog: prog}); err != nil || got != want {
		t.Errorf("%s is %d with %s, %v, not %d with %s", told(s), got.Flags, told(got.Prog), err, flags, told(prog))
	}
}

// isWrong wants an error, and nothing beside it.
func isWrong(t *testing.T, s string, want error) {
	t.Helper()
	got, err := attr.Parse(s)
	if !errors.Is(err, want) {
		t.Errorf("the error of %s is %v, not %v", told(s), err, want)
	}
	if got != (attr.Attr{}) {
		t.Errorf("beside an error %s is %d with %s", told(s), got.Flags, told(got.Prog))
	}
}

// isAsParsed wants what the second working-out answers.
func isAsParsed(t *testing.T, s string) {
	t.Helper()
	want, err := parsed(s)
	if err != nil {
		isWrong(t, s, err)
	} else {
		isParsed(t, s, want.Flags, want.Prog)
	}
}

func TestParseByHand(t *testing.T) {
	isParsed(t, "", 0, "")
	isParsed(t, "VQ", 144, "")
	isParsed(t, "QV", 144, "")
	isParsed(t, "VQPcmp -s", 144, "cmp -s")
	isParsed(t, "D", 1, "")
	isParsed(t, "E", 2, "")
	isParsed(t, "N", 4, "")
	isParsed(t, "n", 8, "")
	isParsed(t, "Q", 16, "")
	isParsed(t, "R", 32, "")
	isParsed(t, "U", 64, "")
	isParsed(t, "V", 128, "")
	isParsed(t, "DENnQRUV", 255, "")
	isParsed(t, "VURQnNED", 255, "")
	isParsed(t, "Nn", 12, "")
	isParsed(t, "nN", 12, "")
	isParsed(t, "VV", 128, "")
	isParsed(t, "DVDVD", 129, "")
	isParsed(t, "nnnnN", 12, "")
	isParsed(t, "Pcmp", 0, "cmp")
	isParsed(t, "PV", 0, "V")
	isParsed(t, "PP", 0, "P")
	isParsed(t, "VPP", 128, "P")
	isParsed(t, "VPQP", 128, "QP")
	isParsed(t, "nPn", 8, "n")
	isParsed(t, "P ", 0, " ")
	isParsed(t, "P\x00", 0, "\x00")
	isWrong(t, "P", api.ErrAttr)
	isWrong(t, "VP", api.ErrAttr)
	isWrong(t, "Vx", api.ErrAttr)
	isWrong(t, "xV", api.ErrAttr)
	isWrong(t, " ", api.ErrAttr)
	isWrong(t, "V Q", api.ErrAttr)
	isWrong(t, " V", api.ErrAttr)
	isWrong(t, "V ", api.ErrAttr)
	isWrong(t, "V Pcmp", api.ErrAttr)
	isWrong(t, "pcmp", api.ErrAttr)
	isWrong(t, "v", api.ErrAttr)
	isWrong(t, "\x00", api.ErrAttr)
	isWrong(t, "V\xff", api.ErrAttr)
	isWrong(t, "\u00e9", api.ErrAttr)
}

// All letters in all orders, and all parts of these.
func TestParseInAnyOrder(t *testing.T) {
	var each func(ahead, left string, flags int)
	each = func(ahead, left string, flags int) {
		isParsed(t, ahead, flags, "")
		for i := range len(left) {
			each(ahead+left[i:i+1], left[:i]+left[i+1:], flags+bitOf(left[i]))
		}
	}
	each("", all, 0)
}

func TestParseOfLettersManyTimes(t *testing.T) {
	for _, n := range []int{2, 3, api.MaxWord, api.MaxWord + 1, 1000, 1 << 20} {
		for i := range len(all) {
			s := strings.Repeat(all[i:i+1], n)
			isParsed(t, s, 1<<i, "")
			isParsed(t, s+"Pcmp", 1<<i, "cmp")
			isParsed(t, s+"D"+s, 1|1<<i, "")
			isWrong(t, s+"x", api.ErrAttr)
			isWrong(t, s+"P", api.ErrAttr)
		}
		isParsed(t, strings.Repeat(all, n), 255, "")
	}
}

// rows is letters that stand around a byte.
func rows() []string { return []string{"", "V", "n", "DENnQRUV", "VV", "QDQ"} }

func TestParseOfEveryByte(t *testing.T) {
	for b := range 256 {
		s := one(b)
		if strings.Contains(all, s) {
			for _, ahead := range rows() {
				for _, behind := range rows() {
					isAsParsed(t, ahead+s+behind)
					isAsParsed(t, ahead+s+behind+"Pcmp")
				}
			}
			continue
		}
		for _, ahead := range rows() {
			for _, behind := range rows() {
				switch {
				case s != "P":
					isWrong(t, ahead+s+behind, api.ErrAttr)
					isWrong(t, ahead+s+behind+"Pcmp", api.ErrAttr)
				case behind == "":
					isWrong(t, ahead+s, api.ErrAttr)
				default:
					flags, _ := parsed(ahead)
					isParsed(t, ahead+s+behind, flags.Flags, behind)
				}
			}
		}
	}
}

// What looks like the letters is none.
func TestParseOfBytesThatAreNoLetters(t *testing.T) {
	const small, blanks = "abcdefghijklmopqrstuvwxyz", " \t\n\r\v\f"
	const others, more = "ABCFGHIJKLMOSTWXYZ", "0123456789:=<|'$`%&#-_.,;/\\()[]{}*?+!\"^~@\x7f\x00\x80\xc3\xff"
	for _, s := range strings.Split(small+blanks+others+more, "") {
		isWrong(t, s, api.ErrAttr)
		isWrong(t, s+"V", api.ErrAttr)
		isWrong(t, "V"+s, api.ErrAttr)
		isWrong(t, "V"+s+"Q", api.ErrAttr)
		isWrong(t, s+s, api.ErrAttr)
	}
	// A letter's low byte isn't the letter.
	for _, r := range []rune{'D' + 0x100, 'n' + 0x100, 'P' + 0x100, 0xFF24, 0x0412} {
		isWrong(t, string(r), api.ErrAttr)
		isWrong(t, "V"+string(r)+"V", api.ErrAttr)
	}
}

func TestParseOfPrograms(t *testing.T) {
	for _, prog := range programs() {
		for _, ahead := range rows() {
			flags, _ := parsed(ahead)
			if prog == "" {
				isWrong(t, ahead+"P", api.ErrAttr)
			} else {
				isParsed(t, ahead+"P"+prog, flags.Flags, prog)
			}
		}
	}
	for b := range 256 {
		s := one(b)
		for _, prog := range []string{s, s + s, "a" + s, s + "a", "a" + s + "b", "P" + s, s + "P", "V" + s + "V"} {
			isParsed(t, "P"+prog, 0, prog)
			isParsed(t, "VnP"+prog, 136, prog)
		}
	}
}

func TestParseOfProgramsOfAllSizes(t *testing.T) {
	for n := 1; n < 3*api.MaxWord; n++ {
		for _, piece := range []string{"w", "P", "V", " ", "\x00", "\xff"} {
			prog := strings.Repeat(piece, n)
			for _, ahead := range rows() {
				flags, _ := parsed(ahead)
				if n <= 120 {
					isParsed(t, ahead+"P"+prog, flags.Flags, prog)
				} else {
					isWrong(t, ahead+"P"+prog, api.ErrLong)
				}
			}
		}
	}
}

func TestParseOfProgramsThatAreTooLong(t *testing.T) {
	for _, prog := range append(longPrograms(), sized(1<<20)) {
		for _, ahead := range append(rows(), strings.Repeat("V", 1000)) {
			isWrong(t, ahead+"P"+prog, api.ErrLong)
		}
	}
	isParsed(t, "P"+strings.Repeat("\u00e9", api.MaxWord/2), 0, strings.Repeat("\u00e9", api.MaxWord/2))
}

// A byte that is no letter is told ahead of a program that is too long; within a program it is no fault.
func TestParseOfTwoFaults(t *testing.T) {
	for b := range 256 {
		s := one(b)
		if bitOf(byte(b)) != 0 || s == "P" {
			continue
		}
		for _, ahead := range rows() {
			for _, behind := range rows() {
				for _, prog := range longPrograms()[:6] {
					isWrong(t, ahead+s+behind+"P"+prog, api.ErrAttr)
				}
			}
		}
		flags, _ := parsed("VD")
		isParsed(t, "VDP"+s+sized(api.MaxWord-1), flags.Flags, s+sized(api.MaxWord-1))
		isParsed(t, "VDP"+sized(api.MaxWord-1)+s, flags.Flags, sized(api.MaxWord-1)+s)
		isWrong(t, "VDP"+s+sized(api.MaxWord), api.ErrLong)
		isWrong(t, "VDP"+sized(api.MaxWord)+s, api.ErrLong)
		isWrong(t, s+"P", api.ErrAttr)
		isWrong(t, s+"VP", api.ErrAttr)
	}
	isWrong(t, "x"+sized(5000), api.ErrAttr)
	isWrong(t, "V"+sized(1<<20), api.ErrAttr)
}

func TestParseOfAllShortTexts(t *testing.T) {
	const alphabet = "DnVPpx \x00\xff"
	texts := []string{""}
	for from := 0; len(texts[len(texts)-1]) < 5; {
		to := len(texts)
		for _, s := range texts[from:to] {
			for i := range len(alphabet) {
				texts = append(texts, s+alphabet[i:i+1])
			}
		}
		from = to
	}
	for _, s := range texts {
		isAsParsed(t, s)
	}
}

func TestParseWithoutAPlan(t *testing.T) {
	c := chance(1)
	var right, wrong, long int
	for range 60000 {
		for _, s := range []string{c.text(12), c.text(300), c.text(4) + "P" + c.text(200), lettersOf(c.below(256)) + "P" + c.text(200), lettersOf(c.below(256)) + lettersOf(c.below(256)) + c.text(3)} {
			isAsParsed(t, s)
			switch _, err := parsed(s); err {
			case nil:
				right++
			case api.ErrLong:
				long++
			default:
				wrong++
			}
		}
	}
	if min(right, wrong, long) < 10000 {
		t.Errorf("just %d texts are right, %d wrong, %d too long", right, wrong, long)
	}
}
