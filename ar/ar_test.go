package ar_test

import (
	"errors"
	"math"
	"regexp"
	"slices"
	"strconv"
	"strings"
	"testing"

	"millwright/api"
	"millwright/ar"
)

const start = "!<arch>\n"

// member is short for a member.
func member(name string, time int, content string) ar.Member {
	return ar.Member{Name: name, Time: time, Content: content}
}

// entry is a member's bytes, of any fields.
func entry(name, time, length, content string) string {
	return wide(name, 16) + wide(time, 12) + "0     0     644     " + wide(length, 10) + "`\n" + content
}

// wide is a text with blanks behind it, up to that many bytes.
func wide(s string, bytes int) string {
	for len(s) < bytes {
		s += " "
	}
	return s
}

// text is the archive that the chapter's words tell of right members.
func text(list ...ar.Member) string {
	s := start
	for _, m := range list {
		s += entry(m.Name, strconv.Itoa(m.Time), strconv.Itoa(len(m.Content)), m.Content)
		if len(m.Content)%2 == 1 {
			s += "\n"
		}
	}
	return s
}

var heads = regexp.MustCompile("^([!-'*-.0-~]{1,15}) +([1-9][0-9]*) *0     0     644     (0|[1-9][0-9]*) *`\n$")

// members reads a text by the chapter's words, in another way than the program: head by head, each held against an expression.
func members(s string) ([]ar.Member, bool) {
	if len(s) > api.MaxContent || !strings.HasPrefix(s, start) {
		return nil, false
	}
	var list []ar.Member
	for at := len(start); at < len(s); {
		if len(s)-at < 60 {
			return nil, false
		}
		part := s[at : at+60]
		found := heads.FindStringSubmatchIndex(part)
		if found == nil || found[4] != 16 || found[5] > 28 || found[6] != 48 || found[7] > 58 {
			return nil, false
		}
		time, _ := strconv.Atoi(part[found[4]:found[5]])
		length, _ := strconv.Atoi(part[found[6]:found[7]])
		name := part[found[2]:found[3]]
		at += 60
		end := at + length + length%2
		twice := slices.ContainsFunc(list, func(m ar.Member) bool { return m.Name == name })
		if time > 1<<39 || twice || end > len(s) || length%2 == 1 && s[end-1] != '\n' {
			return nil, false
		}
		list = append(list, member(name, time, s[at:at+length]))
		at = end
	}
	return list, true
}

func sameList(a, b []ar.Member) bool {
	return len(a) == len(b) && (len(a) == 0 || slices.Equal(a, b))
}

// wants tells whether an error is the one that is wanted (nil: none).
func wants(err, want error) bool {
	if want == nil {
		return err == nil
	}
	return err != nil && errors.Is(err, want)
}

// isMade holds Make against what it should answer: the chapter's archive, or an error and nothing else.
func isMade(t *testing.T, list []ar.Member, want error, what string) {
	t.Helper()
	s, err := ar.Make(list)
	if !wants(err, want) {
		t.Errorf("%s: Make: %v, not %v", what, err, want)
	}
	if want != nil && s != "" {
		t.Errorf("%s: Make tells %q beside an error", what, s)
	}
	if want == nil && s != text(list...) {
		t.Errorf("%s: Make is %q, not %q", what, s, text(list...))
	}
}

// isParsed holds all that is asked of a text against the members that it should have.
func isParsed(t *testing.T, s string, list []ar.Member, what string) {
	t.Helper()
	if got, err := ar.Parse(s); err != nil || !sameList(got, list) {
		t.Errorf("%s: Parse(%q) is %v, %v, not %v", what, s, got, err, list)
	}
	if !ar.Is(s) {
		t.Errorf("%s: Is(%q) is false", what, s)
	}
	for _, m := range list {
		if got, is := ar.Find(s, m.Name); !is || got != m {
			t.Errorf("%s: Find(%q, %q) is %v, %v", what, s, m.Name, got, is)
		}
	}
}

// isNone holds all that is asked of a text that is no archive.
func isNone(t *testing.T, s, what string) {
	t.Helper()
	if got, err := ar.Parse(s); !wants(err, api.ErrForm) || len(got) != 0 {
		t.Errorf("%s: Parse(%q) is %v, %v", what, s, got, err)
	}
	if ar.Is(s) {
		t.Errorf("%s: Is(%q) is true", what, s)
	}
	for _, name := range []string{"a", "b", "x.o", ""} {
		if got, is := ar.Find(s, name); is || got != (ar.Member{}) {
			t.Errorf("%s: Find(%q, %q) is %v, %v", what, s, name, got, is)
		}
	}
	if s == "" {
		return
	}
	for _, m := range []ar.Member{member("a", 1, "x"), {}} {
		if got, err := ar.Set(s, m); !wants(err, api.ErrForm) || got != "" {
			t.Errorf("%s: Set(%q, %v) is %q, %v", what, s, m, got, err)
		}
	}
}

// isAsRead holds the program against the other reading.
func isAsRead(t *testing.T, s, what string) {
	t.Helper()
	if list, is := members(s); is {
		isParsed(t, s, list, what)
	} else {
		isNone(t, s, what)
	}
}

// P3.1

func TestBytes(t *testing.T) {
	cases := []struct {
		list []ar.Member
		want string
	}{
		{nil, "!<arch>\n"},
		{[]ar.Member{}, "!<arch>\n"},
		{
			[]ar.Member{member("x.o", 7, "abc")},
			"!<arch>\nx.o             7           0     0     644     3         `\nabc\n",
		},
		{
			[]ar.Member{member("a", 1, "")},
			"!<arch>\na               1           0     0     644     0         `\n",
		},
		{
			[]ar.Member{member("fifteen--bytes!", 549755813888, "0123456789")},
			"!<arch>\nfifteen--bytes! 5497558138880     0     644     10        `\n0123456789",
		},
		{
			[]ar.Member{member("b", 20, "x"), member("a", 3, "yz"), member("B", 20, "x")},
			"!<arch>\n" +
				"b               20          0     0     644     1         `\nx\n" +
				"a               3           0     0     644     2         `\nyz" +
				"B               20          0     0     644     1         `\nx\n",
		},
	}
	for _, c := range cases {
		if got, err := ar.Make(c.list); err != nil || got != c.want {
			t.Errorf("Make(%v) is %q, %v, not %q", c.list, got, err, c.want)
		}
		isParsed(t, c.want, c.list, "bytes")
	}
}

func TestWithoutMembers(t *testing.T) {
	isMade(t, nil, nil, "no members")
	isParsed(t, start, nil, "no members")
	if got, is := ar.Find(start, ""); is || got != (ar.Member{}) {
		t.Errorf("Find in an archive without members is %v, %v", got, is)
	}
}

func TestNameOfEachByte(t *testing.T) {
	for c := range 256 {
		one := string([]byte{byte(c)})
		want := error(nil)
		if c < 33 || c > 126 || c == '/' || c == '(' || c == ')' {
			want = api.ErrName
		}
		for _, name := range []string{one, one + "ab", "a" + one + "b", "ab" + one} {
			isMade(t, []ar.Member{member(name, 1, "x")}, want, "a name's byte")
			isAsRead(t, start+entry(name, "1", "0", ""), "a name's byte")
		}
	}
}

func TestNameOfEachLength(t *testing.T) {
	for n := range 3 * api.MaxName {
		name := strings.Repeat("n", n)
		want := error(nil)
		if n < 1 || n > 15 {
			want = api.ErrName
		}
		isMade(t, []ar.Member{member(name, 1, "x")}, want, "a name's length")
	}
	if !ar.Is(start+entry(strings.Repeat("n", 15), "1", "0", "")) || ar.Is(start+entry(strings.Repeat("n", 16), "1", "0", "")) {
		t.Error("names of 15 and 16 bytes")
	}
	isNone(t, start+entry("", "1", "0", ""), "the empty name")
}

func TestNames(t *testing.T) {
	right := []string{"a", "!", "~", "x.o", "..", "`", "fifteen--bytes!", "0", "!<arch>"}
	wrong := []string{"", " ", "a b", " a", "a ", "a/", "/", "a/b", "(", ")", "a(b)", "lib.a(x.o)", "a\n", "\x00", "\x7f", "\xff", "\u00e9", "sixteen---bytes!"}
	for _, name := range right {
		isMade(t, []ar.Member{member(name, 1, "x")}, nil, strconv.Quote(name))
		isParsed(t, text(member(name, 1, "x")), []ar.Member{member(name, 1, "x")}, strconv.Quote(name))
	}
	for _, name := range wrong {
		isMade(t, []ar.Member{member(name, 1, "x")}, api.ErrName, strconv.Quote(name))
		// A blank behind a name is in the text no part of it.
		if name != "a " {
			isNone(t, start+entry(name, "1", "0", ""), strconv.Quote(name))
		}
	}
}

func TestTimes(t *testing.T) {
	for _, time := range []int{1, 2, 9, 10, 99999, api.MaxTick - 1, api.MaxTick} {
		list := []ar.Member{member("a", time, "x")}
		isMade(t, list, nil, "a right time")
		isParsed(t, text(list...), list, "a right time")
	}
	for _, time := range []int{0, -1, -12, math.MinInt, api.MaxTick + 1, math.MaxInt} {
		isMade(t, []ar.Member{member("a", time, "x")}, api.ErrRange, "a wrong time")
		isMade(t, []ar.Member{member("b", 1, ""), member("a", time, "x")}, api.ErrRange, "a wrong time behind a right one")
		if figures := strconv.Itoa(time); len(figures) <= 12 {
			isNone(t, start+entry("a", figures, "0", ""), "a wrong time")
		}
	}
	isNone(t, start+entry("a", "999999999999", "0", ""), "the greatest twelve figures")
}

func TestContentOfEachLength(t *testing.T) {
	for n := range api.MaxContent + 10 {
		list := []ar.Member{member("a", 1, strings.Repeat("x", n))}
		if 8+60+n+n%2 <= api.MaxContent {
			isMade(t, list, nil, "a content's length")
			isParsed(t, text(list...), list, "a content's length")
		} else {
			isMade(t, list, api.ErrLong, "a content's length")
			isNone(t, text(list...), "a content's length")
		}
	}
}

func TestContents(t *testing.T) {
	inner := text(member("i", 3, "odd"))
	contents := []string{"", "\n", "\n\n", " ", "\x00", "\xff\xfe", "`\n", "\u00e9", start, inner, inner[8:], inner + "\n", "a               1           0     0     644     0         `\n"}
	for _, one := range contents {
		for _, two := range contents {
			list := []ar.Member{member("a", 1, one), member("b", 2, two)}
			isMade(t, list, nil, "contents")
			isParsed(t, text(list...), list, "contents")
		}
	}
}

// filled is members whose archive has just that many bytes (an even number, with some room for the last one).
func filled(size, count int) []ar.Member {
	var list []ar.Member
	for i := range count {
		list = append(list, member("m"+strconv.Itoa(i), i+1, ""))
	}
	list[count-1].Content = strings.Repeat("y", size-8-60*count)
	return list
}

func TestFullArchives(t *testing.T) {
	for count := 1; count <= 14; count++ {
		full := filled(api.MaxContent, count)
		isMade(t, full, nil, "a full archive")
		isParsed(t, text(full...), full, "a full archive")

		odd := slices.Clone(full)
		odd[count-1].Content = odd[count-1].Content[1:]
		isMade(t, odd, nil, "an archive that is full with the line feed behind the content")
		isParsed(t, text(odd...), odd, "an archive that is full with the line feed behind the content")

		long := slices.Clone(full)
		long[count-1].Content += "z"
		isMade(t, long, api.ErrLong, "an archive that is too long by a byte and a line feed")
		isNone(t, text(long...), "an archive that is too long by a byte and a line feed")
		isNone(t, text(full...)+"z", "a full archive with a byte behind it")
		isNone(t, text(long...)[:api.MaxContent+1], "an archive that is too long by a byte")
	}
	fifteen := append(filled(api.MaxContent, 14), member("one", 1, ""))
	isMade(t, fifteen, api.ErrLong, "fifteen members")
	isNone(t, text(fifteen...), "fifteen members")
	isNone(t, start+strings.Repeat("x", 1<<20), "a text that is far too long")
}

func TestNamesThatAreThereTwice(t *testing.T) {
	a, b, c := member("a", 1, "x"), member("b", 2, ""), member("c", 3, "yz")
	for _, list := range [][]ar.Member{{a, a}, {a, member("a", 9, "other")}, {a, b, a}, {b, a, a}, {a, b, c, b}, {a, b, c, c}} {
		isMade(t, list, api.ErrDup, "a name that is there twice")
		isNone(t, text(list...), "a name that is there twice")
	}
	isMade(t, []ar.Member{a, member("A", 1, "x"), member("aa", 1, "x")}, nil, "names that are nearly the same")
}

func TestErrorsInTheirOrder(t *testing.T) {
	badName, badTime := member("a/b", 1, ""), member("t", 0, "")
	bothBad := member("", -1, "")
	good, twin := member("g", 1, ""), member("g", 2, "")
	long := member("l", 1, strings.Repeat("x", api.MaxContent))
	badTwin := member("g", api.MaxTick+1, "")
	cases := []struct {
		list []ar.Member
		want error
	}{
		{[]ar.Member{bothBad}, api.ErrName},
		{[]ar.Member{{}}, api.ErrName},
		{[]ar.Member{{}, {}}, api.ErrName},
		{[]ar.Member{badTime, badName}, api.ErrName},
		{[]ar.Member{badName, badTime}, api.ErrName},
		{[]ar.Member{good, twin, badName}, api.ErrName},
		{[]ar.Member{badName, badName}, api.ErrName},
		{[]ar.Member{long, badName}, api.ErrName},
		{[]ar.Member{long, good, twin, badTime, badName}, api.ErrName},
		{[]ar.Member{good, twin, badTime}, api.ErrRange},
		{[]ar.Member{good, badTwin}, api.ErrRange},
		{[]ar.Member{badTime, badTime}, api.ErrRange},
		{[]ar.Member{long, badTime}, api.ErrRange},
		{[]ar.Member{long, good, twin, badTime}, api.ErrRange},
		{[]ar.Member{long, good, twin}, api.ErrDup},
		{[]ar.Member{long, long}, api.ErrDup},
		{[]ar.Member{good, long, twin}, api.ErrDup},
		{[]ar.Member{long}, api.ErrLong},
		{[]ar.Member{good, long}, api.ErrLong},
		{[]ar.Member{member("", 1, long.Content)}, api.ErrName},
		{[]ar.Member{member("l", 0, long.Content)}, api.ErrRange},
	}
	for i, c := range cases {
		isMade(t, c.list, c.want, "case "+strconv.Itoa(i))
	}
}

func TestNearlyAnArchive(t *testing.T) {
	wrong := []string{
		"", "x", "!", "\n",
		"!<arch>", "!<arch>\r\n", "!<arch> ", "!<arch>\n\n", " !<arch>\n", "!<ARCH>\n", "!<thin>\n", "!<arch>\nx", "!<arch>\n!<arch>\n",
		entry("a", "1", "0", ""),
		start + entry("a", "1", "0", "")[:59],
		start + entry("a", "1", "0", "") + "\n",
		start + entry("a", "1", "0", "") + "x",
		start + entry("a", "1", "0", "") + start,
		start + entry("a", "1", "0", "") + entry("b", "1", "0", "")[:1],
		start + entry("a", "1", "0", "") + entry("b", "1", "0", "")[:59],
		start + "\n" + entry("a", "1", "0", ""),

		start + entry("a", "", "0", ""),
		start + entry("a", "0", "0", ""),
		start + entry("a", "01", "0", ""),
		start + entry("a", "+1", "0", ""),
		start + entry("a", "-1", "0", ""),
		start + entry("a", " 1", "0", ""),
		start + entry("a", "1 1", "0", ""),
		start + entry("a", "1x", "0", ""),
		start + entry("a", "0x1", "0", ""),
		start + entry("a", "1_0", "0", ""),
		start + entry("a", "1e3", "0", ""),
		start + entry("a", "1.0", "0", ""),
		start + entry("a", "1\t", "0", ""),
		start + entry("a", "\u0661", "0", ""),
		start + entry("a", "549755813889", "0", ""),

		start + entry("a", "1", "", ""),
		start + entry("a", "1", "00", ""),
		start + entry("a", "1", "02", "xy"),
		start + entry("a", "1", "+2", "xy"),
		start + entry("a", "1", "-2", "xy"),
		start + entry("a", "1", "+0", ""),
		start + entry("a", "1", "-0", ""),
		start + entry("a", "1", " 2", "xy"),
		start + entry("a", "1", "2x", "xy"),
		start + entry("a", "1", "0x2", "xy"),
		start + entry("a", "1", "2.", "xy"),
		start + entry("a", "1", "2\n", "xy"),
		start + entry("a", "1", "1", ""),
		start + entry("a", "1", "2", ""),
		start + entry("a", "1", "2", "x"),
		start + entry("a", "1", "4", "xy\n"),
		start + entry("a", "1", "9999999999", "xy"),
		start + entry("a", "1", "-999999999", "xy"),
		start + entry("a", "1", "0", "xy"),
		start + entry("a", "1", "2", "xyz"),
		start + entry("a", "1", "2", "xy\n"),

		start + entry("a", "1", "1", "x"),
		start + entry("a", "1", "1", "xx"),
		start + entry("a", "1", "1", "x "),
		start + entry("a", "1", "1", "x\r"),
		start + entry("a", "1", "1", "x\x00"),
		start + entry("a", "1", "1", "x\n\n"),
		start + entry("a", "1", "1", "x") + entry("b", "1", "0", ""),
		start + entry("a", "1", "1", "x\r") + entry("b", "1", "0", ""),

		start + entry(" a", "1", "0", ""),
		start + entry("a b", "1", "0", ""),
		start + entry("a\t", "1", "0", ""),
		start + entry("a/", "1", "0", ""),
		start + entry("a(b)", "1", "0", ""),
		start + strings.Replace(entry("a", "1", "0", ""), "`", "'", 1),
		start + strings.Replace(entry("a", "1", "0", ""), "`\n", "`\r", 1),
		start + strings.Replace(entry("a", "1", "0", ""), "`\n", "\n`", 1),
		start + strings.Replace(entry("a", "1", "0", ""), "644", "755", 1),
		start + strings.Replace(entry("a", "1", "0", ""), "644 ", "0644", 1),
		start + strings.Replace(entry("a", "1", "0", ""), "0     0 ", "1     0 ", 1),
		start + strings.Replace(entry("a", "1", "0", ""), "0     0 ", "0     1 ", 1),
		start + strings.Replace(entry("a", "1", "0", ""), "0     0 ", "      0 ", 1),
		start + strings.Replace(entry("a", "1", "0", ""), "0     0 ", "0       ", 1),
		start + strings.ReplaceAll(entry("a", "1", "0", ""), " ", "\x00"),
		start + strings.ReplaceAll(entry("a", "1", "0", ""), " ", "\t"),
	}
	for i, s := range wrong {
		isNone(t, s, "text "+strconv.Itoa(i))
	}
}

// samples is archives to begin with.
func samples() []string {
	return []string{
		start,
		text(member("a", 1, "")),
		text(member("x.o", 70, "odd")),
		text(member("fifteen--bytes!", api.MaxTick, "even")),
		text(member("b", 10, "x"), member("a", 2, "0123456789"), member("c", 3, "")),
	}
}

func TestEachTextCutShort(t *testing.T) {
	for _, s := range samples() {
		for n := range len(s) {
			isAsRead(t, s[:n], "cut short")
			isAsRead(t, s[n+1:], "cut short ahead")
			isAsRead(t, s[:n]+s[n+1:], "a byte less")
		}
	}
}

func TestEachTextWithAnotherByte(t *testing.T) {
	odd := []byte(" \n\r\t\x00\x7f\xff!`/()0123456789+-_axXe.<>~")
	for _, s := range samples() {
		for n := range len(s) + 1 {
			for _, c := range odd {
				isAsRead(t, s[:n]+string([]byte{c})+s[n:], "a byte more")
				if n < len(s) {
					isAsRead(t, s[:n]+string([]byte{c})+s[n+1:], "another byte")
				}
			}
		}
	}
}

func TestEachByteInEachPlaceOfAHead(t *testing.T) {
	s := text(member("x.o", 70, "odd"))
	for n := range len(s) {
		for c := range 256 {
			isAsRead(t, s[:n]+string([]byte{byte(c)})+s[n+1:], "another byte")
		}
	}
}

func TestOtherReadingTakesWhatIsRight(t *testing.T) {
	taken := 0
	for _, s := range samples() {
		for n := range len(s) {
			for c := range 256 {
				if _, is := members(s[:n] + string([]byte{byte(c)}) + s[n+1:]); is {
					taken++
				}
			}
		}
	}
	if taken < 5000 {
		t.Errorf("the other reading takes %d texts alone", taken)
	}
}

func TestFind(t *testing.T) {
	list := []ar.Member{member("b", 10, "x"), member("a", 2, "0123456789"), member("c", 3, "")}
	s := text(list...)
	for _, m := range list {
		if got, is := ar.Find(s, m.Name); !is || got != m {
			t.Errorf("Find(%q) is %v, %v", m.Name, got, is)
		}
	}
	for _, name := range []string{"", "d", "A", "a ", " a", "aa", "b\x00", "a/", "0123456789", strings.Repeat("a", 99)} {
		if got, is := ar.Find(s, name); is || got != (ar.Member{}) {
			t.Errorf("Find(%q) is %v, %v", name, got, is)
		}
	}
	for _, wrong := range []string{"", "a", s + "x", s[:len(s)-1], s[1:], text(append(list, list[0])...), text(append(list, member("d", 1, strings.Repeat("x", api.MaxContent)))...)} {
		for _, name := range []string{"a", "b", "c", "d", ""} {
			if got, is := ar.Find(wrong, name); is || got != (ar.Member{}) {
				t.Errorf("Find(%q, %q) is %v, %v", wrong, name, got, is)
			}
		}
	}
}

// isSet holds Set against what it should answer: the archive of a list, or an error and nothing else.
func isSet(t *testing.T, s string, m ar.Member, list []ar.Member, want error) {
	t.Helper()
	got, err := ar.Set(s, m)
	if !wants(err, want) {
		t.Errorf("Set(%q, %v): %v, not %v", s, m, err, want)
	}
	if want != nil && got != "" {
		t.Errorf("Set(%q, %v) tells %q beside an error", s, m, got)
	}
	if want == nil && got != text(list...) {
		t.Errorf("Set(%q, %v) is %q, not %q", s, m, got, text(list...))
	}
}

func TestSet(t *testing.T) {
	a, b, c := member("a", 2, "0123456789"), member("b", 10, "x"), member("c", 3, "")
	newA, newB, newC := member("a", 99, ""), member("b", 1, "longer\n"), member("c", api.MaxTick, "y")
	cases := []struct {
		list []ar.Member
		m    ar.Member
		want []ar.Member
	}{
		{nil, a, []ar.Member{a}},
		{[]ar.Member{a}, a, []ar.Member{a}},
		{[]ar.Member{a}, newA, []ar.Member{newA}},
		{[]ar.Member{a}, b, []ar.Member{a, b}},
		{[]ar.Member{b}, a, []ar.Member{b, a}},
		{[]ar.Member{c, a}, b, []ar.Member{c, a, b}},
		{[]ar.Member{b, a, c}, newB, []ar.Member{newB, a, c}},
		{[]ar.Member{b, a, c}, newA, []ar.Member{b, newA, c}},
		{[]ar.Member{b, a, c}, newC, []ar.Member{b, a, newC}},
		{[]ar.Member{b, a, c}, member("A", 1, "z"), []ar.Member{b, a, c, member("A", 1, "z")}},
	}
	for _, c := range cases {
		isSet(t, text(c.list...), c.m, c.want, nil)
	}
	isSet(t, "", b, []ar.Member{b}, nil)
}

func TestSetErrors(t *testing.T) {
	a, b := member("a", 2, "0123456789"), member("b", 10, "x")
	right := []string{"", start, text(a), text(b, a)}
	tooMuch := strings.Repeat("x", api.MaxContent)
	for _, s := range right {
		isSet(t, s, member("", 1, ""), nil, api.ErrName)
		isSet(t, s, ar.Member{}, nil, api.ErrName)
		isSet(t, s, member("a b", 0, tooMuch), nil, api.ErrName)
		isSet(t, s, member("sixteen---bytes!", 1, ""), nil, api.ErrName)
		isSet(t, s, member("a(b)", 1, ""), nil, api.ErrName)
		for _, name := range []string{"a", "b", "c"} {
			isSet(t, s, member(name, 0, ""), nil, api.ErrRange)
			isSet(t, s, member(name, -1, tooMuch), nil, api.ErrRange)
			isSet(t, s, member(name, api.MaxTick+1, ""), nil, api.ErrRange)
			isSet(t, s, member(name, 1, tooMuch), nil, api.ErrLong)
		}
	}
	for _, s := range []string{"x", "\n", start[:7], start + "x", text(a) + "x", text(a, a), text(member("a", 1, tooMuch))} {
		for _, m := range []ar.Member{a, b, {}, member("a b", 0, tooMuch), member("a", 0, ""), member("a", 1, tooMuch)} {
			isSet(t, s, m, nil, api.ErrForm)
		}
	}
}

func TestSetOfFullArchives(t *testing.T) {
	for count := 2; count <= 14; count++ {
		full := filled(api.MaxContent, count)
		last := full[count-1]
		isSet(t, text(full[:count-1]...), last, full, nil)
		isSet(t, text(full...), last, full, nil)

		longer := member(last.Name, 1, last.Content+"z")
		isSet(t, text(full[:count-1]...), longer, nil, api.ErrLong)
		isSet(t, text(full...), longer, nil, api.ErrLong)
		isSet(t, text(full...), member(full[0].Name, 1, "z"), nil, api.ErrLong)
		isSet(t, text(full...), member("new", 1, ""), nil, api.ErrLong)

		other := slices.Clone(full)
		other[0].Time = api.MaxTick
		isSet(t, text(full...), other[0], other, nil)
		if count < 14 {
			// A shorter member in the place of a longer one makes room.
			shorter := slices.Clone(full)
			shorter[count-1] = member(last.Name, 5, "")
			isSet(t, text(full...), shorter[count-1], shorter, nil)
		}
	}
}

func TestSize(t *testing.T) {
	sizes := map[int]int{0: 60, 1: 62, 2: 62, 3: 64, 4: 64, 9: 70, 10: 70, 831: 892, 832: 892, 833: 894, 900: 960, 901: 962, 1 << 20: 60 + 1<<20, 1<<20 + 1: 62 + 1<<20}
	for n, want := range sizes {
		content := strings.Repeat("x", n)
		for _, m := range []ar.Member{member("a", 1, content), member("", 0, content), member("a b/(c) and more than 15 bytes", -1, content), member("\xff", math.MinInt, content), member("a", math.MaxInt, content)} {
			if got := ar.Size(m); got != want {
				t.Errorf("Size of a member with %d bytes is %d, not %d", n, got, want)
			}
		}
	}
	if ar.Size(ar.Member{}) != 60 {
		t.Error("Size of a member without anything")
	}
}

// P3.2

// rightLists is all rows of up to most members out of some, no two of one name.
func rightLists(most int) [][]ar.Member {
	some := []ar.Member{
		member("a", 1, ""), member("b", 2, "x"), member("c", 30, "yz"), member("!", api.MaxTick, "\n"),
		member("fifteen--bytes!", 4, start), member("~", 12345, text(member("a", 1, "x"))), member("0", 99, "\x00\xff "),
	}
	all := [][]ar.Member{nil}
	for from := 0; most > 0; most-- {
		to := len(all)
		for _, list := range all[from:to] {
			for _, m := range some {
				if !slices.Contains(list, m) {
					all = append(all, append(slices.Clone(list), m))
				}
			}
		}
		from = to
	}
	return all
}

func TestWhatIsMadeIsParsedAsItWas(t *testing.T) {
	for _, list := range rightLists(4) {
		s, err := ar.Make(list)
		if err != nil {
			t.Errorf("Make(%v): %v", list, err)
			continue
		}
		isParsed(t, s, list, "what is made")
		size := len(start)
		for _, m := range list {
			size += ar.Size(m)
		}
		if len(s) != size {
			t.Errorf("Make(%v) has %d bytes, not %d", list, len(s), size)
		}
	}
}

func TestWhatIsParsedIsMadeAsItWas(t *testing.T) {
	seen := 0
	holds := func(s string) {
		list, err := ar.Parse(s)
		if err != nil {
			return
		}
		seen++
		if got, err := ar.Make(list); err != nil || got != s {
			t.Errorf("Make of Parse(%q) is %q, %v", s, got, err)
		}
	}
	for _, s := range samples() {
		holds(s)
		for n := range len(s) {
			for c := range 256 {
				holds(s[:n] + string([]byte{byte(c)}) + s[n+1:])
			}
		}
	}
	if seen < 5000 {
		t.Errorf("only %d texts are archives", seen)
	}
}

func TestMembersThatAreSetOneByOne(t *testing.T) {
	for _, list := range rightLists(3) {
		s := ""
		for _, m := range list {
			for _, set := range []ar.Member{member(m.Name, 7, "first"), m} {
				var err error
				if s, err = ar.Set(s, set); err != nil {
					t.Fatalf("Set(%v): %v", set, err)
				}
			}
		}
		if len(list) > 0 && s != text(list...) {
			t.Errorf("set one by one: %q, not %q", s, text(list...))
		}
	}
}

// Rules for every call

func TestMakeChangesNoList(t *testing.T) {
	tooMuch := strings.Repeat("x", api.MaxContent)
	lists := [][]ar.Member{
		{},
		{member("c", 3, "x"), member("a", 1, ""), member("b", 2, "yz")},
		{member("c", 3, "x"), member("a", 1, ""), member("c", 2, "yz")},
		{member("c", 3, "x"), member("a/", 1, ""), member("b", 2, "yz")},
		{member("c", 0, "x"), member("a", 1, ""), member("b", 2, "yz")},
		{member("c", 3, "x"), member("a", 1, tooMuch), member("b", 2, "yz")},
	}
	for _, list := range lists {
		whole := append(slices.Clone(list), member("room", 1, "behind"), member("it", 1, ""))
		kept := slices.Clone(whole)
		ar.Make(whole[:len(list)])
		if !slices.Equal(whole, kept) {
			t.Errorf("Make changes %v to %v", kept, whole)
		}
	}
}

func TestWhatParseAnswersIsTheCallers(t *testing.T) {
	list := []ar.Member{member("b", 10, "x"), member("a", 2, "0123456789"), member("c", 3, "")}
	s := text(list...)
	one, _ := ar.Parse(s)
	two, _ := ar.Parse(s)
	for i := range one[:cap(one)] {
		one[:cap(one)][i] = member("over", 8, "written")
	}
	if !slices.Equal(two, list) {
		t.Error("two answers share their room")
	}
	isParsed(t, s, list, "an answer that is written over")
	isSet(t, s, member("d", 1, ""), append(slices.Clone(list), member("d", 1, "")), nil)
}

func TestTheSameCallsHaveTheSameAnswers(t *testing.T) {
	list := []ar.Member{member("b", 10, "x"), member("a", 2, "0123456789")}
	for range 20 {
		isMade(t, list, nil, "again")
		isParsed(t, text(list...), list, "again")
		isSet(t, text(list...), member("a", 5, "z"), []ar.Member{list[0], member("a", 5, "z")}, nil)
		isNone(t, text(list...)+"x", "again")
	}
}

func FuzzParse(f *testing.F) {
	for _, s := range samples() {
		f.Add(s)
	}
	f.Add(start + entry("a", "1", "-2", "xy"))
	f.Add(start + entry("a", "1", "9999999999", "xy"))
	f.Fuzz(func(t *testing.T, s string) { isAsRead(t, s, "any text") })
}
