package pike_test

import (
	"fmt"
	"slices"
	"strconv"
	"strings"
	"testing"

	"millwright/class"
	"millwright/pike"
	"millwright/prog"
)

// Programs and matches as the tests write them down.

// program is the instructions that a text tells, with semicolons between: an op's word, and its numbers, or the bytes of its set; any is a Byte of all bytes, op an instruction of that op.
func program(text string) []prog.Instr {
	var out []prog.Instr
	for _, line := range strings.Split(text, ";") {
		if words := strings.Fields(line); len(words) > 0 {
			out = append(out, instruction(words[0], words[1:]))
		}
	}
	return out
}

func instruction(word string, rest []string) prog.Instr {
	switch word {
	case "byte":
		return prog.Instr{Op: prog.Byte, Set: class.Of([]byte(strings.Join(rest, ""))...)}
	case "any":
		return prog.Instr{Op: prog.Byte, Set: class.All()}
	}
	var numbers [3]int
	for i, word := range rest {
		numbers[i], _ = strconv.Atoi(word)
	}
	if word == "op" {
		return prog.Instr{Op: numbers[0], X: numbers[1], Y: numbers[2]}
	}
	return prog.Instr{Op: slices.Index(ops(), word), X: numbers[0], Y: numbers[1]}
}

// ops is the ops' words, by their numbers.
func ops() []string { return strings.Fields("byte split jump save begin end match") }

// told is a program as a text, if it isn't too great to be read.
func told(p []prog.Instr) string {
	if len(p) > 30 {
		return fmt.Sprintf("a program of %d instructions", len(p))
	}
	return fmt.Sprintf("%v", p)
}

// toldText is a text, if it isn't too great to be read.
func toldText(s string) string {
	if len(s) > 300 {
		return fmt.Sprintf("a text of %d bytes", len(s))
	}
	return strconv.Quote(s)
}

// no stands for what a match is where there is none.
const no = "no match"

// places is twenty places that a text tells, as in 0:0 1:3; -1 of each number that it doesn't tell.
func places(text string) []int {
	out := slices.Repeat([]int{-1}, 20)
	for _, word := range strings.Fields(text) {
		number, place, _ := strings.Cut(word, ":")
		i, _ := strconv.Atoi(number)
		out[i], _ = strconv.Atoi(place)
	}
	return out
}

// isMatch holds a program's match of a text against the places that it should have, and asks for the part that stands between the first two of them.
func isMatch(t *testing.T, p []prog.Instr, s, want string) {
	t.Helper()
	got, is := pike.Match(p, s)
	if want == no {
		if is || len(got) != 0 {
			t.Errorf("%s matches %s: %t, %v", told(p), toldText(s), is, got)
		}
		return
	}
	if !is || !slices.Equal(got, places(want)) {
		t.Errorf("%s matches %s: %t, %v, not %q", told(p), toldText(s), is, got, want)
		return
	}
	part := ""
	if 0 <= got[0] && got[0] <= got[1] {
		part = s[got[0]:got[1]]
	}
	if pike.Part(s, got, 0) != part {
		t.Errorf("%s at %s: Part 0 of %v is %q", told(p), toldText(s), got, pike.Part(s, got, 0))
	}
}

// tried is a program and a text, and the places of the match that they should have.
type tried struct {
	code, text, want string
}

// areMatches holds matches against what they should be, and against a walk that goes by the chapter's words.
func areMatches(t *testing.T, list []tried) {
	t.Helper()
	for _, one := range list {
		p := program(one.code)
		isMatch(t, p, one.text, one.want)
		isOfTheWords(t, p, one.text)
	}
}

// P9.1: programs that no expression has

func TestNoInstruction(t *testing.T) {
	for _, p := range [][]prog.Instr{nil, {}, program("match")[:0]} {
		for _, s := range []string{"", "a", "\x00", "aab"} {
			isMatch(t, p, s, no)
		}
	}
}

func TestByte(t *testing.T) {
	areMatches(t, []tried{
		{"byte a;match", "a", ""},
		{"byte a;match", "b", no},
		{"byte a;match", "", no},
		{"byte a;match", "aa", no},
		{"byte a;match", "ab", no},
		{"byte a;match", "ba", no},
		{"byte ab;match", "b", ""},
		{"byte ab;match", "c", no},
		{"byte a;byte b;match", "ab", ""},
		{"byte a;byte b;match", "ac", no},
		{"byte a;byte b;match", "a", no},
		{"byte a;byte b;match", "abb", no},
		{"byte;match", "a", no},
		{"byte;match", "\x00", no},
		{"byte;match", "", no},
		{"byte a;byte;match", "a", no},
		{"byte a;byte;match", "aa", no},
		{"any;match", "a", ""},
		{"any;match", "\x00", ""},
		{"any;match", "\xff", ""},
		{"any;match", "\n", ""},
		{"any;match", "", no},
		{"any;any;match", "a", no},
		{"any;any;match", "ab", ""},
		{"save 2;byte a;save 3;byte b;save 4;match", "ab", "2:0 3:1 4:2"},
	})
}

func TestJump(t *testing.T) {
	areMatches(t, []tried{
		// to itself
		{"jump 0", "", no},
		{"jump 0;match", "", no},
		{"match;jump 1", "", ""},
		{"byte a;jump 1;match", "a", no},
		// backwards
		{"jump 2;match;jump 1", "", ""},
		{"jump 2;match;jump 1", "a", no},
		{"byte a;jump 0", "aaa", no},
		{"split 1 3;byte a;jump 0;match", "aaa", ""},
		{"save 2;jump 0;match", "", no},
		// to the next one, and further on
		{"jump 1;match", "", ""},
		{"jump 2;byte a;match", "", ""},
		{"jump 2;byte a;match", "a", no},
		// where nothing is
		{"jump -1;match", "", no},
		{"jump -1;match", "a", no},
		{"jump 2;match", "", no},
		{"jump 3;match", "", no},
		{"byte a;jump -1;match", "a", no},
		{"jump 4611686018427387904;match", "", no},
		{"jump -9223372036854775808;match", "", no},
		{"jump 9223372036854775807;match", "", no},
		{"jump 256;match", "", no},
		{"jump 4294967296;match", "", no},
		// to the last instruction
		{"jump 3;byte a;byte b;match", "", ""},
		{"jump 3;byte a;match;byte b", "b", no},
		{"jump 3;match;match;jump 1", "", ""},
		// a Jump has no Y
		{"op 2 -1 1;match", "", no},
		{"op 2 1 -1;match", "", ""},
	})
}

func TestSplit(t *testing.T) {
	areMatches(t, []tried{
		// to itself, each place and both
		{"split 0 0", "", no},
		{"split 0 0;match", "", no},
		{"split 0 1;match", "", ""},
		{"split 1 0;match", "", ""},
		{"split 0 1;match", "a", no},
		{"split 1 0;match", "a", no},
		{"byte a;split 1 2;match", "a", ""},
		{"byte a;split 2 1;match", "a", ""},
		// backwards
		{"byte a;split 0 2;match", "aaa", ""},
		{"byte a;split 2 0;match", "aaa", ""},
		{"byte a;split 0 2;match", "", no},
		{"byte a;split 0 2;match", "ab", no},
		{"byte a;split 0 0;match", "aa", no},
		// further on
		{"split 2 3;byte a;byte b;match", "b", ""},
		{"split 3 2;byte a;byte b;match", "b", ""},
		{"split 3 2;byte a;byte b;match", "", ""},
		// where nothing is
		{"split -1 1;match", "", ""},
		{"split 1 -1;match", "", ""},
		{"split -1 -1;match", "", no},
		{"split 2 1;match", "", ""},
		{"split 1 2;match", "", ""},
		{"split 2 2;match", "", no},
		{"split -1 2;match", "", no},
		{"split 9223372036854775807 1;match", "", ""},
		{"split -9223372036854775808 1;match", "", ""},
		{"split 1 9223372036854775807;byte a;match", "", no},
		// to the last instruction
		{"split 2 2;byte a;match", "", ""},
		{"split 2 1;byte a;match", "", ""},
		{"split 2 1;byte a;match", "a", ""},
		{"split 1 2;match;split 0 1", "", ""},
		{"split 3 1;byte a;match;byte b", "a", ""},
	})
}

func TestWhichWayOfASplit(t *testing.T) {
	// Way 1 keeps 2, way 2 keeps 3.
	ways := func(first, second string) string {
		return "split 1 4;save 2;" + first + ";jump 6;save 3;" + second + ";match"
	}
	back := func(first, second string) string {
		return "split 4 1;save 2;" + first + ";jump 6;save 3;" + second + ";match"
	}
	areMatches(t, []tried{
		// both come to a match
		{ways("byte a", "byte a"), "a", "2:0"},
		{back("byte a", "byte a"), "a", "3:0"},
		{ways("begin", "end"), "", "2:0"},
		{back("begin", "end"), "", "3:0"},
		// the first one alone
		{ways("byte a", "byte b"), "a", "2:0"},
		{back("byte b", "byte a"), "a", "3:0"},
		// the second one alone
		{ways("byte b", "byte a"), "a", "3:0"},
		{back("byte a", "byte b"), "a", "2:0"},
		{ways("byte a", "begin"), "", "3:0"},
		{ways("match", "byte a"), "a", "3:0"},
		// neither
		{ways("byte b", "byte c"), "a", no},
		{back("byte b", "byte c"), "a", no},
		{ways("match", "match"), "a", no},
		{ways("byte a", "byte a"), "", no},
		{ways("byte a", "byte a"), "aa", no},
		// the first one ends further on than the second one goes on
		{"split 1 5;save 2;byte a;byte a;match;save 3;byte a;byte b;match", "ab", "3:0"},
		{"split 1 5;save 2;byte a;byte a;match;save 3;byte a;byte b;match", "aa", "2:0"},
		{"split 1 5;save 2;byte a;byte a;match;save 3;byte a;match", "a", "3:0"},
		{"split 1 5;save 2;byte a;byte a;match;save 3;byte a;match", "aaa", no},
		// a match ahead of the end is none, and holds back no way that comes behind it
		{"split 1 2;match;byte a;match", "a", ""},
		{"split 1 2;match;byte a;match", "", ""},
		{"split 2 1;match;byte a;match", "aa", no},
		{"split 1 4;save 2;byte a;match;save 3;byte a;byte b;match", "ab", "3:0"},
	})
}

func TestWaysWithinWays(t *testing.T) {
	// Four ways, each with a Save and bytes of its own: they begin at 3, 6, 9 and 12.
	four := func(splits, first, second, third, fourth string) string {
		return splits + ";save 2;" + first + ";jump 15;save 3;" + second + ";jump 15;save 4;" + third + ";jump 15;save 5;" + fourth + ";jump 15;match"
	}
	areMatches(t, []tried{
		{four("split 1 2;split 3 6;split 9 12", "any", "any", "any", "any"), "a", "2:0"},
		{four("split 1 2;split 6 3;split 9 12", "any", "any", "any", "any"), "a", "3:0"},
		{four("split 2 1;split 3 6;split 9 12", "any", "any", "any", "any"), "a", "4:0"},
		{four("split 2 1;split 3 6;split 12 9", "any", "any", "any", "any"), "a", "5:0"},
		{four("split 1 2;split 3 6;split 9 12", "byte b", "any", "any", "any"), "a", "3:0"},
		{four("split 1 2;split 3 6;split 9 12", "byte b", "byte b", "any", "any"), "a", "4:0"},
		{four("split 1 2;split 3 6;split 9 12", "byte b", "byte b", "byte b", "any"), "a", "5:0"},
		{four("split 1 2;split 3 6;split 9 12", "byte b", "byte b", "byte b", "byte b"), "a", no},
		{four("split 2 1;split 6 3;split 12 9", "any", "byte a", "byte b", "byte b"), "a", "3:0"},
		{four("split 2 1;split 6 3;split 12 9", "any", "byte b", "byte b", "byte b"), "a", "2:0"},
		{four("split 1 2;split 3 6;split 9 12", "begin", "begin", "begin", "end"), "", "2:0"},
		{four("split 2 1;split 3 6;split 9 12", "begin", "begin", "begin", "end"), "", "4:0"},
		{four("split 1 2;split -1 6;split 9 12", "any", "any", "any", "any"), "a", "3:0"},
		{four("split 1 2;split -1 16;split 9 12", "any", "any", "any", "any"), "a", "4:0"},
		// three of them, behind the first one's Split
		{four("split 3 1;split 6 2;split 12 9", "byte b", "byte b", "any", "any"), "a", "5:0"},
		{four("split 3 1;split 2 6;split 12 9", "byte b", "any", "byte b", "byte b"), "a", "3:0"},
	})
}

func TestSave(t *testing.T) {
	areMatches(t, []tried{
		{"save 0;match", "", "0:0"},
		{"save 1;match", "", "1:0"},
		{"save 18;match", "", "18:0"},
		{"save 19;match", "", "19:0"},
		{"save 20;match", "", ""},
		{"save 21;match", "", ""},
		{"save -1;match", "", ""},
		{"save -20;match", "", ""},
		{"save 256;match", "", ""},
		{"save 4294967296;match", "", ""},
		{"save 9223372036854775807;match", "", ""},
		{"save -9223372036854775808;match", "", ""},
		{"byte a;save 0;byte b;save 1;match", "ab", "0:1 1:2"},
		{"byte a;save 19;byte b;save 20;save -1;match", "ab", "19:1"},
		{"save 0;match", "a", no},
		// one number twice on a way
		{"save 2;byte a;save 2;match", "a", "2:1"},
		{"save 2;save 2;match", "", "2:0"},
		{"save 2;byte a;save 2;byte a;save 2;byte a;match", "aaa", "2:2"},
		{"save 2;save 3;byte a;save 2;match", "a", "2:1 3:0"},
		{"split 1 4;byte a;save 2;jump 0;match", "aaa", "2:3"},
		{"split 1 4;save 2;byte a;jump 0;match", "aaa", "2:2"},
		// a number on a way that ends without a match
		{"split 1 4;save 2;byte a;match;save 3;match", "", "3:0"},
		{"split 1 4;save 2;save 4;byte b;byte a;save 3;match", "a", "3:1"},
		{"split 1 3;save 2;jump -1;byte a;match", "a", ""},
		{"split 1 4;byte a;save 2;byte a;byte a;byte b;save 3;match", "ab", "3:2"},
		{"save 5;split 2 4;save 5;op 9;save 6;match", "", "5:0 6:0"},
		{"save 5;any;split 3 5;save 5;op 9;save 6;match", "a", "5:0 6:1"},
		// a Save has no Y
		{"op 3 2 -1;match", "", "2:0"},
	})
	all := ""
	for number := range 20 {
		all += "save " + strconv.Itoa(number) + ";any;"
	}
	areMatches(t, []tried{{all + "match", strings.Repeat("a", 20), "0:0 1:1 2:2 3:3 4:4 5:5 6:6 7:7 8:8 9:9 10:10 11:11 12:12 13:13 14:14 15:15 16:16 17:17 18:18 19:19"}})
}

func TestBeginAndEnd(t *testing.T) {
	areMatches(t, []tried{
		{"begin;match", "", ""},
		{"begin;match", "a", no},
		{"begin;byte a;match", "a", ""},
		{"begin;begin;byte a;match", "a", ""},
		{"byte a;begin;match", "a", no},
		{"byte a;begin;byte b;match", "ab", no},
		{"byte a;byte b;begin;match", "ab", no},
		{"end;match", "", ""},
		{"end;match", "a", no},
		{"end;byte a;match", "a", no},
		{"byte a;end;match", "a", ""},
		{"byte a;end;end;match", "a", ""},
		{"byte a;end;byte b;match", "ab", no},
		{"byte a;end;match", "ab", no},
		{"byte a;byte b;end;match", "ab", ""},
		{"begin;end;match", "", ""},
		{"end;begin;match", "", ""},
		{"begin;end;match", "a", no},
		{"begin;byte a;end;match", "a", ""},
		{"end;byte a;begin;match", "a", no},
		{"split 1 2;begin;byte a;match", "a", ""},
		{"split 1 2;end;byte a;match", "a", ""},
		// neither has an X or a Y
		{"op 4 -1 -1;op 5 -1 -1;match", "", ""},
		{"op 4 0 0;op 5 0 0;match", "", ""},
	})
}

func TestMatchAndItsPlace(t *testing.T) {
	areMatches(t, []tried{
		{"match", "", ""},
		{"match", "a", no},
		{"match;match", "a", no},
		{"match;byte a;match", "a", no},
		{"byte a;match", "a", ""},
		{"byte a;match", "ab", no},
		{"byte a;match;byte b;match", "ab", no},
		{"byte a;byte b;match", "ab", ""},
		{"byte a", "a", no},
		{"save 0;save 1", "", no},
		{"op 6 -1 -1", "", ""},
		{"op 6 0 0", "a", no},
	})
}

func TestTheLastInstruction(t *testing.T) {
	for code, texts := range map[string][]string{
		"byte a":           {"", "a", "aa"},
		"any":              {"", "a", "aa"},
		"save 0":           {"", "a"},
		"begin":            {"", "a"},
		"end":              {"", "a"},
		"byte a;end":       {"", "a", "ab"},
		"any;save 1":       {"", "a", "ab"},
		"any;byte b":       {"", "a", "ab", "abc"},
		"begin;begin":      {"", "a"},
		"jump 1;begin":     {"", "a"},
		"split 1 1;end":    {"", "a"},
		"split 1 2;save 1": {"", "a"},
	} {
		for _, s := range texts {
			areMatches(t, []tried{{code, s, no}})
		}
	}
	areMatches(t, []tried{
		// the last instruction's end is that of one way alone
		{"split 2 1;match;save 0", "", ""},
		{"split 2 1;match;begin", "", ""},
		{"split 2 1;match;end", "", ""},
		{"split 3 1;any;match;any", "a", ""},
	})
}

func TestNumbersThatAreNoOp(t *testing.T) {
	for _, op := range []string{"-9223372036854775808", "-256", "-7", "-1", "7", "8", "100", "255", "256", "257", "258", "259", "262", "4294967296", "4294967302", "9223372036854775807"} {
		areMatches(t, []tried{
			{"op " + op, "", no},
			{"op " + op + ";match", "", no},
			{"op " + op + ";match", "a", no},
			{"op " + op + " 1 1;match", "", no},
			{"byte a;op " + op + " 2 2;match", "a", no},
			{"match;op " + op, "", ""},
			{"split 1 2;op " + op + " 2 2;match", "", ""},
			{"split 1 3;save 2;op " + op + " 3 3;save 3;match", "", "3:0"},
			{"jump 2;op " + op + ";match", "", ""},
		})
		code, _ := strconv.Atoi(op)
		isMatch(t, []prog.Instr{{Op: code, X: 1, Y: 1, Set: class.All()}, {Op: prog.Match}}, "a", no)
	}
}

func TestWaysThatMeet(t *testing.T) {
	areMatches(t, []tried{
		// a Split's own two ways
		{"split 1 1;match", "", ""},
		{"split 1 1;byte a;match", "a", ""},
		{"split 1 1;byte a;match", "b", no},
		{"split 1 1;save 2;byte a;save 3;match", "a", "2:0 3:1"},
		// two ways that keep other places, and meet ahead of a match: the first one's
		{"split 1 3;save 2;jump 5;save 3;jump 5;match", "", "2:0"},
		{"split 3 1;save 2;jump 5;save 3;jump 5;match", "", "3:0"},
		{"split 1 3;save 2;jump 5;save 3;jump 5;byte a;match", "a", "2:0"},
		{"split 3 1;save 2;jump 5;save 3;jump 5;byte a;match", "a", "3:0"},
		// two ways that meet behind bytes of their own
		{"split 1 4;save 2;byte a;jump 7;save 3;byte a;jump 7;match", "a", "2:0"},
		{"split 4 1;save 2;byte a;jump 7;save 3;byte a;jump 7;match", "a", "3:0"},
		{"split 1 4;save 2;byte b;jump 7;save 3;byte a;jump 7;match", "a", "3:0"},
		// they come to one instruction, but at other places: none of them ends there
		{"split 1 3;byte a;jump 3;byte a;match", "a", ""},
		{"split 1 3;byte a;jump 3;byte a;match", "aa", ""},
		{"split 1 3;byte a;save 2;byte a;match", "a", ""},
		{"split 1 3;byte a;save 2;byte a;match", "aa", "2:1"},
		{"split 3 1;byte a;save 2;byte a;match", "aa", "2:1"},
		// a way that comes back to where it has been itself ends: what it has kept by then is gone
		{"split 1 3;save 2;jump 0;match", "", ""},
		{"split 1 3;save 2;jump 0;byte a;match", "a", ""},
		{"save 2;split 2 4;save 3;jump 1;save 4;match", "", "2:0 4:0"},
		{"split 1 5;save 2;split 3 4;byte a;jump 0;match", "", ""},
		{"split 1 5;save 2;split 3 4;byte a;jump 0;match", "aa", "2:1"},
		{"split 1 4;save 2;byte a;jump 0;match", "aa", "2:1"},
		// a way goes on where another one has been at another place
		{"byte a;split 0 2;save 2;match", "aaa", "2:3"},
	})
}

func TestWaysThatLeadRoundWithoutAByte(t *testing.T) {
	areMatches(t, []tried{
		{"split 1 0", "", no},
		{"jump 1;jump 0", "", no},
		{"jump 1;jump 0", "a", no},
		{"jump 1;jump 2;jump 0;match", "a", no},
		{"split 1 1;split 0 0;match", "", no},
		{"split 1 2;split 0 2;match", "", ""},
		{"split 1 2;split 0 2;match", "a", no},
		{"save 2;save 3;jump 0", "", no},
		{"begin;jump 0;match", "", no},
		{"end;jump 0;match", "", no},
		{"begin;end;split 0 3;match", "", ""},
		// (a*)*
		{"save 0;split 2 8;save 2;split 4 6;byte a;jump 3;save 3;jump 1;save 1;match", "", "0:0 1:0"},
		{"save 0;split 2 8;save 2;split 4 6;byte a;jump 3;save 3;jump 1;save 1;match", "aaa", "0:0 1:3 2:0 3:3"},
		{"save 0;split 2 8;save 2;split 4 6;byte a;jump 3;save 3;jump 1;save 1;match", "ab", no},
		// (^*)*
		{"split 1 5;split 2 4;begin;jump 1;jump 0;match", "", ""},
		{"split 1 5;split 2 4;begin;jump 1;jump 0;match", "a", no},
		// ()+ and (a|)+
		{"save 2;save 3;split 0 3;match", "", "2:0 3:0"},
		{"save 2;split 2 4;byte a;jump 4;save 3;split 0 6;match", "aa", "2:1 3:2"},
		{"save 2;split 2 4;byte a;jump 4;save 3;split 0 6;match", "", "2:0 3:0"},
	})
}

func TestTextsOfBytesOfEveryValue(t *testing.T) {
	all := make([]byte, 256)
	for i := range all {
		all[i] = byte(i)
	}
	round := program("save 0;split 2 4;any;jump 1;save 1;match")
	isMatch(t, round, string(all), "0:0 1:256")
	for _, set := range all {
		p := []prog.Instr{{Op: prog.Byte, Set: class.Of(set)}, {Op: prog.Match}}
		not := []prog.Instr{{Op: prog.Byte, Set: class.Of(set).Not()}, {Op: prog.Match}}
		for _, b := range all {
			want, other := no, ""
			if b == set {
				want, other = "", no
			}
			isMatch(t, p, string([]byte{b}), want)
			isMatch(t, not, string([]byte{b}), other)
		}
		round[2].Set = class.Of(set).Not()
		isMatch(t, round, string(all), no)
		isMatch(t, round, string(all[:set]), "0:0 1:"+strconv.Itoa(int(set)))
		isMatch(t, round, string(all[set:]), no)
	}
	// A place is that of a byte, not of a rune.
	isMatch(t, program("any;save 2;any;match"), "é", "2:1")
	isMatch(t, program("any;match"), "é", no)
	isMatch(t, program("any;any;any;save 2;match"), "\xff\xc3\x28", "2:3")
}

// P9.1: every call ends

// chain is a row of instructions that are made by their places, with a Match behind them.
func chain(length int, made func(at int) prog.Instr) []prog.Instr {
	p := make([]prog.Instr, 0, length+1)
	for at := range length {
		p = append(p, made(at))
	}
	return append(p, prog.Instr{Op: prog.Match})
}

func TestWaysThatDouble(t *testing.T) {
	text := strings.Repeat("a", 3000)
	// Each Split has two ways, and all of them meet ahead of the next one: there are 2 to the 100th at each byte.
	p := chain(100, func(at int) prog.Instr { return prog.Instr{Op: prog.Split, X: at + 1, Y: at + 1} })
	isMatch(t, p, "", "")
	isMatch(t, p, text, no)
	p[100] = prog.Instr{Op: prog.Byte, Set: class.Of('a')}
	p = append(p, program("save 2;split 0 103;match")...)
	isMatch(t, p, text, "2:3000")
	isMatch(t, p, text+"b", no)
	isMatch(t, p, "b"+text, no)
	// Each Split leads to each of those behind it, by the next one.
	p = chain(200, func(at int) prog.Instr { return prog.Instr{Op: prog.Split, X: at + 1, Y: min(at+2, 199)} })
	isMatch(t, p, "", "")
	isMatch(t, p, text, no)
	// Each byte may be gone by or not: as many ways as rows of places.
	p = chain(200, func(at int) prog.Instr {
		if at%2 == 0 {
			return prog.Instr{Op: prog.Split, X: at + 1, Y: at + 2}
		}
		return prog.Instr{Op: prog.Byte, Set: class.Of('a')}
	})
	isMatch(t, p, text[:100], "")
	isMatch(t, p, text[:50], "")
	isMatch(t, p, text[:101], no)
	isMatch(t, p, text[:50]+"b", no)
	// All instructions lead to all others.
	p = chain(150, func(at int) prog.Instr {
		if at%3 == 0 {
			return prog.Instr{Op: prog.Byte, Set: class.Of('a')}
		}
		return prog.Instr{Op: prog.Split, X: at * 7 % 151, Y: at * 11 % 149}
	})
	isMatch(t, p, text+"b", no)
}

func TestGreatPrograms(t *testing.T) {
	const length = 300000
	text := strings.Repeat("a", length)
	next := func(op int) []prog.Instr {
		return chain(length, func(at int) prog.Instr {
			return prog.Instr{Op: op, X: at + 1, Y: at + 1, Set: class.Of('a')}
		})
	}
	isMatch(t, next(prog.Byte), text, "")
	isMatch(t, next(prog.Byte), text[1:], no)
	isMatch(t, next(prog.Byte), text+"a", no)
	isMatch(t, next(prog.Jump), "", "")
	isMatch(t, next(prog.Split), "", "")
	isMatch(t, next(prog.Begin), "", "")
	isMatch(t, next(prog.End), "", "")
	isMatch(t, next(prog.Split), text[:20], no)
	isMatch(t, next(prog.Save), "", "1:0 2:0 3:0 4:0 5:0 6:0 7:0 8:0 9:0 10:0 11:0 12:0 13:0 14:0 15:0 16:0 17:0 18:0 19:0")
	// Each Split's way to the last instruction but one waits till all others have ended.
	p := chain(length, func(at int) prog.Instr { return prog.Instr{Op: prog.Split, X: at + 1, Y: length} })
	p[length] = prog.Instr{Op: prog.Jump, X: -1}
	isMatch(t, p, "", no)
	p = append(p, prog.Instr{Op: prog.Match})
	p[0].Y = length + 1
	isMatch(t, p, "", "")
	// As many ways wait for one byte.
	p = chain(length, func(at int) prog.Instr {
		if at%2 == 0 {
			return prog.Instr{Op: prog.Split, X: at + 1, Y: at + 2}
		}
		return prog.Instr{Op: prog.Byte, Set: class.Of('a')}
	})
	isMatch(t, p, "a", "")
	isMatch(t, p, "b", no)
}

func TestGreatTexts(t *testing.T) {
	text := strings.Repeat("a", 1<<20)
	isMatch(t, program("save 0;split 2 4;byte a;jump 1;save 1;match"), text, "0:0 1:1048576")
	isMatch(t, program("save 0;split 2 4;byte a;jump 1;save 1;match"), text+"b", no)
	isMatch(t, program("save 0;split 2 8;save 2;split 4 6;byte a;jump 3;save 3;jump 1;save 1;match"), text, "0:0 1:1048576 2:0 3:1048576")
	isMatch(t, program("save 0;split 2 8;save 2;split 4 6;byte a;jump 3;save 3;jump 1;save 1;match"), text+"b", no)
	isMatch(t, program("byte b;split 0 2;match"), text, no)
	isMatch(t, program("match"), text, no)
}
