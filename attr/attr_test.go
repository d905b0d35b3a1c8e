package attr_test

import (
	"math"
	"slices"
	"strconv"
	"strings"
	"testing"

	"millwright/api"
	"millwright/attr"
)

// chance is numbers without a plan, the same ones each time.
type chance uint64

// below is a number of 0 up to, but not, another one.
func (c *chance) below(n int) int {
	*c ^= *c << 13
	*c ^= *c >> 7
	*c ^= *c << 17
	return int(uint64(*c) >> 16 % uint64(n))
}

// text is a text of fewer than most bytes: of any bytes, or of one of some alphabets.
func (c *chance) text(most int) string {
	alphabets := []string{"D", "V", "DENnQRUV", "DENnQRUVP", "nP", "DENnQRUVPdepqruv", "nN \t\n", "VQP\x00\xff"}
	out := make([]byte, c.below(most))
	pick := c.below(len(alphabets) + 1)
	for i := range out {
		if pick == len(alphabets) {
			out[i] = byte(c.below(256))
		} else {
			out[i] = alphabets[pick][c.below(len(alphabets[pick]))]
		}
	}
	return string(out)
}

// one is the text of a single byte.
func one(b int) string { return string([]byte{byte(b)}) }

// sized is a text of n bytes.
func sized(n int) string { return strings.Repeat("w", n) }

// told is a text as a message shows it: a great one just as far as one can read it.
func told(s string) string { return strconv.Quote(s[:min(len(s), 400)]) }

// The document's words once more, letter by letter and bit by bit.

// all is the flags' letters from the lowest bit on.
const all = "DENnQRUV"

// bitOf is the bit that a byte is the letter of, 0 without one.
func bitOf(b byte) int {
	switch b {
	case 68:
		return 1
	case 69:
		return 2
	case 78:
		return 4
	case 110:
		return 8
	case 81:
		return 16
	case 82:
		return 32
	case 85:
		return 64
	case 86:
		return 128
	}
	return 0
}

// parsed is what a text's attributes are: each letter adds the bit that isn't there yet.
func parsed(s string) (attr.Attr, error) {
	var a attr.Attr
	for i := range len(s) {
		bit := bitOf(s[i])
		switch {
		case s[i] == 80 && i+1 == len(s):
			return attr.Attr{}, api.ErrAttr
		case s[i] == 80 && len(s)-i-1 > 120:
			return attr.Attr{}, api.ErrLong
		case s[i] == 80:
			a.Prog = s[i+1:]
			return a, nil
		case bit == 0:
			return attr.Attr{}, api.ErrAttr
		case a.Flags/bit%2 == 0:
			a.Flags += bit
		}
	}
	return a, nil
}

// lettersOf is the letters of flags of 0 to 255: those of each remainder.
func lettersOf(flags int) string {
	var out string
	for i := range 8 {
		if flags%2 == 1 {
			out += all[i : i+1]
		}
		flags /= 2
	}
	return out
}

// textOf is the text of attributes that are right.
func textOf(a attr.Attr) string {
	if a.Prog == "" {
		return lettersOf(a.Flags)
	}
	return lettersOf(a.Flags) + "P" + a.Prog
}

// hasBits tells, bit by bit, whether all of a number's are among another one's.
func hasBits(flags, number int) bool {
	for i := range 64 {
		if uint64(number)>>i%2 == 1 && uint64(flags)>>i%2 == 0 {
			return false
		}
	}
	return true
}

// bothBits is, bit by bit, those of two numbers.
func bothBits(a, b int) int {
	var out uint64
	for i := range 64 {
		if uint64(a)>>i%2 == 1 || uint64(b)>>i%2 == 1 {
			out += uint64(1) << i
		}
	}
	return int(out)
}

// What the tests ask of.

// programs is programs of many kinds, all of them right.
func programs() []string {
	out := []string{
		"", "cmp", "cmp -s", "cmp -s $target", all, "nVUn", "D", "n", "P", "PP", "VP", "PV", "VPcmp", "p", "x", "0", ":", "'a b'", "%.o", "-",
		" ", "  ", "\t", "\n", " a ", "a\tb\nc", "\x00", "\x00V\x00", "\x7f", "\x80", "\xff", "\xff\xfe\x80", "\u00e9", "\u20ac P", "\xc3",
	}
	for _, n := range []int{2, 50, api.MaxWord - 1, api.MaxWord} {
		out = append(out, sized(n), strings.Repeat("P", n), strings.Repeat("V", n), strings.Repeat(" ", n), strings.Repeat("\x00", n), strings.Repeat("\xff", n))
	}
	return out
}

// longPrograms is programs that are too long.
func longPrograms() []string {
	var out []string
	for _, n := range []int{api.MaxWord + 1, api.MaxWord + 2, 2 * api.MaxWord, 5000} {
		out = append(out, sized(n), strings.Repeat("P", n), strings.Repeat("V", n), strings.Repeat("\x00", n), strings.Repeat("\xff", n))
	}
	// Bytes are counted, not runes.
	return append(out, strings.Repeat("\u00e9", api.MaxWord/2+1))
}

// wrongFlags is flags below 0 and above 255.
func wrongFlags() []int {
	return []int{-1, -2, -128, -255, -256, -257, 256, 257, 384, 511, 512, 1 << 16, 1<<32 | 1, -1 << 32, math.MinInt32, math.MaxInt32, math.MinInt, math.MinInt + 1, math.MaxInt, math.MaxInt - 1}
}

// P18.1, of the flags

func TestFlags(t *testing.T) {
	for _, c := range []struct {
		what      string
		got, want int
	}{
		{"Delete", attr.Delete, 1}, {"Errors", attr.Errors, 2}, {"None", attr.None, 4}, {"Files", attr.Files, 8},
		{"Quiet", attr.Quiet, 16}, {"Regex", attr.Regex, 32}, {"Updated", attr.Updated, 64}, {"Virtual", attr.Virtual, 128},
	} {
		if c.got != c.want {
			t.Errorf("%s is %d, not %d", c.what, c.got, c.want)
		}
	}
}

// Each flag goes by its own letter, and by no other one.
func TestLettersOfTheFlags(t *testing.T) {
	for letter, flag := range map[string]int{"D": attr.Delete, "E": attr.Errors, "N": attr.None, "n": attr.Files, "Q": attr.Quiet, "R": attr.Regex, "U": attr.Updated, "V": attr.Virtual} {
		a, err := attr.Parse(letter)
		if err != nil || a != (attr.Attr{Flags: flag}) {
			t.Errorf("%s is %+v, %v", letter, a, err)
		}
		if got := attr.Text(attr.Attr{Flags: flag}); got != letter {
			t.Errorf("the text of %d is %s, not %s", flag, told(got), letter)
		}
	}
}

// P18.1, of Right

func isRight(t *testing.T, a attr.Attr, want bool) {
	t.Helper()
	if got := attr.Right(a); got != want {
		t.Errorf("Right of %d with a program of %d bytes is %t", a.Flags, len(a.Prog), got)
	}
}

func TestRightFlags(t *testing.T) {
	for flags := -2000; flags <= 2000; flags++ {
		isRight(t, attr.Attr{Flags: flags}, 0 <= flags && flags <= 255)
		isRight(t, attr.Attr{Flags: flags, Prog: "cmp"}, 0 <= flags && flags <= 255)
	}
	for _, flags := range []int{0, 1, 127, 128, 254, 255} {
		for _, prog := range programs() {
			isRight(t, attr.Attr{Flags: flags, Prog: prog}, true)
		}
	}
	for _, flags := range wrongFlags() {
		for _, prog := range programs() {
			isRight(t, attr.Attr{Flags: flags, Prog: prog}, false)
		}
	}
}

func TestRightPrograms(t *testing.T) {
	for n := range 3 * api.MaxWord {
		for _, flags := range []int{0, 1, 144, 255} {
			isRight(t, attr.Attr{Flags: flags, Prog: sized(n)}, n <= 120)
			isRight(t, attr.Attr{Flags: flags, Prog: strings.Repeat("\xff", n)}, n <= 120)
		}
		for _, flags := range []int{-1, 256} {
			isRight(t, attr.Attr{Flags: flags, Prog: sized(n)}, false)
		}
	}
	for _, prog := range longPrograms() {
		for _, flags := range append(wrongFlags(), 0, 1, 144, 255) {
			isRight(t, attr.Attr{Flags: flags, Prog: prog}, false)
		}
	}
	isRight(t, attr.Attr{Prog: strings.Repeat("\u00e9", api.MaxWord/2)}, true)
}

// P18.1, of Text

func isText(t *testing.T, a attr.Attr, want string) {
	t.Helper()
	if got := attr.Text(a); got != want {
		t.Errorf("the text of %d with %s is %s, not %s", a.Flags, told(a.Prog), told(got), told(want))
	}
}

func TestTextsByHand(t *testing.T) {
	isText(t, attr.Attr{}, "")
	isText(t, attr.Attr{Flags: 144}, "QV")
	isText(t, attr.Attr{Flags: 144, Prog: "cmp -s"}, "QVPcmp -s")
	isText(t, attr.Attr{Flags: 255}, "DENnQRUV")
	isText(t, attr.Attr{Flags: 255, Prog: "P"}, "DENnQRUVPP")
	isText(t, attr.Attr{Flags: 12}, "Nn")
	isText(t, attr.Attr{Flags: 129}, "DV")
	isText(t, attr.Attr{Flags: 170}, "EnRV")
	isText(t, attr.Attr{Flags: 85}, "DNQU")
	isText(t, attr.Attr{Prog: "cmp"}, "Pcmp")
	isText(t, attr.Attr{Prog: " "}, "P ")
	isText(t, attr.Attr{Prog: "\x00"}, "P\x00")
	isText(t, attr.Attr{Flags: 128, Prog: "V"}, "VPV")
	isText(t, attr.Attr{Flags: 8, Prog: sized(api.MaxWord)}, "nP"+sized(api.MaxWord))
}

func TestTextsOfAllFlags(t *testing.T) {
	for flags := range 256 {
		isText(t, attr.Attr{Flags: flags}, lettersOf(flags))
		for _, prog := range programs() {
			isText(t, attr.Attr{Flags: flags, Prog: prog}, textOf(attr.Attr{Flags: flags, Prog: prog}))
		}
	}
}

func TestTextsOfWhatIsNotRight(t *testing.T) {
	for _, flags := range wrongFlags() {
		for _, prog := range slices.Concat(programs(), longPrograms()) {
			isText(t, attr.Attr{Flags: flags, Prog: prog}, "")
		}
	}
	for flags := range 256 {
		for _, prog := range longPrograms() {
			isText(t, attr.Attr{Flags: flags, Prog: prog}, "")
		}
	}
}

// P18.1, of Has

// numbers is numbers of all kinds: of each flag, of several ones, of bits beyond, and below 0.
func numbers() []int {
	out := append(wrongFlags(), 0, 3, 5, 7, 15, 24, 112, 129, 144, 145, 170, 85, 240, 254, 255, 128|256, 128|512, 1|1<<40, 255|1<<62, -3, -129, -145, ^144, ^255, 100, 1000)
	for i := range 63 {
		out = append(out, 1<<i)
	}
	return out
}

func has(t *testing.T, a attr.Attr, number int, want bool) {
	t.Helper()
	if got := a.Has(number); got != want {
		t.Errorf("%d has %d: %t", a.Flags, number, got)
	}
}

func TestHasByHand(t *testing.T) {
	a := attr.Attr{Flags: attr.Quiet | attr.Virtual, Prog: "cmp"}
	for _, yes := range []int{attr.Quiet, attr.Virtual, attr.Quiet | attr.Virtual, 144, 0} {
		has(t, a, yes, true)
	}
	for _, no := range []int{attr.Delete, attr.Errors, attr.None, attr.Files, attr.Regex, attr.Updated, attr.Quiet | attr.Delete, 145, 255, 111, 256, 144 | 256, 1 << 40, -1, -112, math.MinInt, math.MaxInt} {
		has(t, a, no, false)
	}
	has(t, attr.Attr{}, 0, true)
	has(t, attr.Attr{}, 1, false)
	has(t, attr.Attr{}, 256, false)
	has(t, attr.Attr{}, -1, false)
	has(t, attr.Attr{Flags: 255}, 255, true)
	has(t, attr.Attr{Flags: 255}, 256, false)
	has(t, attr.Attr{Flags: 255}, 511, false)
	// Attributes that aren't right have the bits that they have.
	has(t, attr.Attr{Flags: 256}, 256, true)
	has(t, attr.Attr{Flags: 256}, 1, false)
	has(t, attr.Attr{Flags: 257, Prog: sized(5000)}, 257, true)
	has(t, attr.Attr{Flags: -1}, -1, true)
	has(t, attr.Attr{Flags: -1}, math.MinInt, true)
	has(t, attr.Attr{Flags: -1}, math.MaxInt, true)
	has(t, attr.Attr{Flags: -2}, 1, false)
	has(t, attr.Attr{Flags: -2}, -2, true)
	has(t, attr.Attr{Flags: -2}, -1, false)
	has(t, attr.Attr{Flags: math.MinInt}, math.MinInt, true)
	has(t, attr.Attr{Flags: math.MinInt}, -1, false)
	has(t, attr.Attr{Flags: 128, Prog: sized(api.MaxWord + 1)}, attr.Virtual, true)
}

func TestHasOfEachFlag(t *testing.T) {
	for i := range 8 {
		for j := range 8 {
			has(t, attr.Attr{Flags: 1 << i}, 1<<j, i == j)
			has(t, attr.Attr{Flags: 255 - 1<<i}, 1<<j, i != j)
			has(t, attr.Attr{Flags: 1<<i | 1<<j}, 1<<j, true)
			has(t, attr.Attr{Flags: 1 << i}, 1<<i|1<<j, i == j)
		}
	}
}

func TestHasOfAllFlags(t *testing.T) {
	for flags := range 256 {
		for number := range 512 {
			has(t, attr.Attr{Flags: flags}, number, hasBits(flags, number))
			has(t, attr.Attr{Flags: flags}, -number, hasBits(flags, -number))
		}
	}
}

func TestHasOfAllKinds(t *testing.T) {
	for _, flags := range numbers() {
		for _, number := range numbers() {
			for _, prog := range []string{"", "cmp", sized(api.MaxWord + 1)} {
				has(t, attr.Attr{Flags: flags, Prog: prog}, number, hasBits(flags, number))
			}
		}
	}
}

// P18.1, of Merge

func isMerged(t *testing.T, a, b, want attr.Attr) {
	t.Helper()
	if got := attr.Merge(a, b); got != want {
		t.Errorf("%d with %s and %d with %s are merged %d with %s", a.Flags, told(a.Prog), b.Flags, told(b.Prog), got.Flags, told(got.Prog))
	}
}

func TestMergedByHand(t *testing.T) {
	for _, c := range []struct{ a, b, want attr.Attr }{
		{attr.Attr{}, attr.Attr{}, attr.Attr{}},
		{attr.Attr{Flags: 1}, attr.Attr{}, attr.Attr{Flags: 1}},
		{attr.Attr{}, attr.Attr{Flags: 1}, attr.Attr{Flags: 1}},
		{attr.Attr{Flags: 1}, attr.Attr{Flags: 128}, attr.Attr{Flags: 129}},
		{attr.Attr{Flags: 15}, attr.Attr{Flags: 240}, attr.Attr{Flags: 255}},
		{attr.Attr{Flags: 144}, attr.Attr{Flags: 144}, attr.Attr{Flags: 144}},
		{attr.Attr{Flags: 255}, attr.Attr{Flags: 255}, attr.Attr{Flags: 255}},
		{attr.Attr{Flags: 144}, attr.Attr{Flags: 130}, attr.Attr{Flags: 146}},
		{attr.Attr{Flags: 144}, attr.Attr{Flags: 16}, attr.Attr{Flags: 144}},
		{attr.Attr{Flags: 16}, attr.Attr{Flags: 144}, attr.Attr{Flags: 144}},
		{attr.Attr{Prog: "a"}, attr.Attr{}, attr.Attr{Prog: "a"}},
		{attr.Attr{}, attr.Attr{Prog: "b"}, attr.Attr{Prog: "b"}},
		{attr.Attr{Prog: "a"}, attr.Attr{Prog: "b"}, attr.Attr{Prog: "a"}},
		{attr.Attr{Prog: "b"}, attr.Attr{Prog: "a"}, attr.Attr{Prog: "b"}},
		{attr.Attr{Prog: " "}, attr.Attr{Prog: "b"}, attr.Attr{Prog: " "}},
		{attr.Attr{Prog: "\x00"}, attr.Attr{Prog: "b"}, attr.Attr{Prog: "\x00"}},
		{attr.Attr{Flags: 144, Prog: "cmp -s"}, attr.Attr{Flags: 1, Prog: "b"}, attr.Attr{Flags: 145, Prog: "cmp -s"}},
		{attr.Attr{Flags: 144}, attr.Attr{Flags: 1, Prog: "b"}, attr.Attr{Flags: 145, Prog: "b"}},
		// Attributes that aren't right are merged as they are.
		{attr.Attr{Flags: 256}, attr.Attr{Flags: 1}, attr.Attr{Flags: 257}},
		{attr.Attr{Flags: -1}, attr.Attr{Flags: 144, Prog: "b"}, attr.Attr{Flags: -1, Prog: "b"}},
		{attr.Attr{Flags: -256}, attr.Attr{Flags: 255}, attr.Attr{Flags: -1}},
		{attr.Attr{Flags: math.MinInt}, attr.Attr{Flags: math.MaxInt}, attr.Attr{Flags: -1}},
		{attr.Attr{Prog: sized(121)}, attr.Attr{Prog: "b"}, attr.Attr{Prog: sized(121)}},
		{attr.Attr{Prog: "a"}, attr.Attr{Prog: sized(121)}, attr.Attr{Prog: "a"}},
		{attr.Attr{Flags: 512}, attr.Attr{Flags: 1, Prog: sized(5000)}, attr.Attr{Flags: 513, Prog: sized(5000)}},
	} {
		isMerged(t, c.a, c.b, c.want)
	}
}

func TestMergedOfAllFlags(t *testing.T) {
	for a := range 256 {
		for b := range 256 {
			isMerged(t, attr.Attr{Flags: a}, attr.Attr{Flags: b}, attr.Attr{Flags: bothBits(a, b)})
		}
	}
}

func TestMergedOfAllKinds(t *testing.T) {
	for _, a := range numbers() {
		for _, b := range numbers() {
			flags := bothBits(a, b)
			isMerged(t, attr.Attr{Flags: a, Prog: "a"}, attr.Attr{Flags: b, Prog: "b"}, attr.Attr{Flags: flags, Prog: "a"})
			isMerged(t, attr.Attr{Flags: a, Prog: "a"}, attr.Attr{Flags: b}, attr.Attr{Flags: flags, Prog: "a"})
			isMerged(t, attr.Attr{Flags: a}, attr.Attr{Flags: b, Prog: "b"}, attr.Attr{Flags: flags, Prog: "b"})
			isMerged(t, attr.Attr{Flags: a}, attr.Attr{Flags: b}, attr.Attr{Flags: flags})
		}
	}
	for _, prog := range slices.Concat(programs(), longPrograms()) {
		if prog == "" {
			continue
		}
		for _, other := range slices.Concat(programs(), longPrograms()) {
			isMerged(t, attr.Attr{Flags: 3, Prog: prog}, attr.Attr{Flags: 6, Prog: other}, attr.Attr{Flags: 7, Prog: prog})
		}
		isMerged(t, attr.Attr{Flags: 3}, attr.Attr{Flags: 6, Prog: prog}, attr.Attr{Flags: 7, Prog: prog})
	}
}
