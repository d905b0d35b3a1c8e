package prog_test

import (
	"errors"
	"fmt"
	"math"
	"slices"
	"strconv"
	"strings"
	"testing"

	"millwright/api"
	"millwright/class"
	"millwright/prog"
	"millwright/rex"
)

// Nodes as the tests write them down.

var (
	empty = node(rex.Empty)
	a     = set('a')
	b     = set('b')
	begin = node(rex.Begin)
	end   = node(rex.End)
)

func node(kind int, kids ...rex.Node) rex.Node { return rex.Node{Kind: kind, Kids: kids} }

func set(list ...byte) rex.Node { return rex.Node{Kind: rex.One, Set: class.Of(list...)} }

func group(index int, kid rex.Node) rex.Node {
	return rex.Node{Kind: rex.Group, Index: index, Kids: []rex.Node{kid}}
}

// row is a Cat of so many Ones.
func row(length int) rex.Node { return node(rex.Cat, slices.Repeat([]rex.Node{a}, length)...) }

// within is a node in so many others of a kind.
func within(kind, times int, n rex.Node) rex.Node {
	for range times {
		n = node(kind, n)
		if kind == rex.Group {
			n.Index = 1
		}
	}
	return n
}

// told is a node as a text, if it isn't too great to be read.
func told(n rex.Node) string {
	if size := rex.Size(n); size > 300 {
		return fmt.Sprintf("a node of kind %d with %d nodes in it", n.Kind, size)
	}
	return fmt.Sprintf("%+v", n)
}

// program is the instructions that a text tells, with semicolons between: an op's word, and its numbers, or the bytes of its set.
func program(text string) []prog.Instr {
	var out []prog.Instr
	for _, line := range strings.Split(text, ";") {
		words := strings.Fields(line)
		in := prog.Instr{Op: slices.Index(ops(), words[0])}
		if words[0] == "byte" {
			in.Set = class.Of([]byte(words[1])...)
			words = words[:1]
		}
		numbers := []*int{&in.X, &in.Y}
		for i, word := range words[1:] {
			*numbers[i], _ = strconv.Atoi(word)
		}
		out = append(out, in)
	}
	return out
}

// ops is the ops' words, by their numbers.
func ops() []string { return strings.Fields("byte split jump save begin end match") }

// isCompiled holds a node's program against the one that it should have, and asks for P8.2.
func isCompiled(t *testing.T, n rex.Node, want []prog.Instr) {
	t.Helper()
	if got, err := prog.Compile(n); err != nil || !slices.Equal(got, want) || !prog.Closed(got) {
		t.Errorf("Compile of %s is %v, %v, not %v, or isn't closed", told(n), got, err, want)
	}
}

// isCompiledOf does so for an expression's program.
func isCompiledOf(t *testing.T, s string, want []prog.Instr) {
	t.Helper()
	if got, err := prog.Of(s); err != nil || !slices.Equal(got, want) || !prog.Closed(got) {
		t.Errorf("Of %q is %v, %v, not %v, or isn't closed", s, got, err, want)
	}
}

// isRefused holds a node against the error that it should have, and asks for no program beside it.
func isRefused(t *testing.T, n rex.Node, want error) {
	t.Helper()
	if got, err := prog.Compile(n); !errors.Is(err, want) || len(got) != 0 {
		t.Errorf("Compile of %s: %v, not %v, and %d instructions", told(n), err, want, len(got))
	}
}

// isRefusedOf does so for an expression.
func isRefusedOf(t *testing.T, s string, want error) {
	t.Helper()
	if got, err := prog.Of(s); !errors.Is(err, want) || len(got) != 0 {
		t.Errorf("Of %q: %v, not %v, and %d instructions", s, err, want, len(got))
	}
}

// coded is a node, and the code that it has from place 1 on, as program tells it.
type coded struct {
	n    rex.Node
	code string
}

func areCoded(t *testing.T, list []coded) {
	t.Helper()
	for _, c := range list {
		want := program("save 0;save 1;match")
		if c.code != "" {
			want = program("save 0;" + c.code + ";save 1;match")
		}
		isCompiled(t, c.n, want)
		if prog.Length(c.n) != len(want)-3 || !prog.Right(c.n) {
			t.Errorf("%s has a length of %d, not %d", told(c.n), prog.Length(c.n), len(want)-3)
		}
	}
}

// P8.1: ops

func TestOps(t *testing.T) {
	for i, op := range []int{prog.Byte, prog.Split, prog.Jump, prog.Save, prog.Begin, prog.End, prog.Match} {
		if op != i {
			t.Errorf("the op %s is %d", ops()[i], op)
		}
	}
}

// P8.1 and P8.2: the code of a node of each kind

func TestTheExample(t *testing.T) {
	isCompiledOf(t, "a*", program("save 0;split 2 4;byte a;jump 1;save 1;match"))
}

func TestCodeOfEachKind(t *testing.T) {
	areCoded(t, []coded{
		{empty, ""},
		{a, "byte a"},
		{set('a', 'b'), "byte ab"},
		{begin, "begin"},
		{end, "end"},
		{node(rex.Cat, a, b), "byte a;byte b"},
		{node(rex.Alt, a, b), "split 2 4;byte a;jump 5;byte b"},
		{node(rex.Star, a), "split 2 4;byte a;jump 1"},
		{node(rex.Plus, a), "byte a;split 1 3"},
		{node(rex.Maybe, a), "split 2 3;byte a"},
		{group(1, a), "save 2;byte a;save 3"},
	})
	for _, s := range []class.Set{{}, class.All(), class.Of('\n').Not(), class.Span(0, 63), class.Of(0), class.Of(255)} {
		isCompiled(t, rex.Node{Kind: rex.One, Set: s}, []prog.Instr{{Op: prog.Save}, {Op: prog.Byte, Set: s}, {Op: prog.Save, X: 1}, {Op: prog.Match}})
	}
}

func TestCodeFromAPlaceFurtherOn(t *testing.T) {
	ahead := func(n rex.Node) rex.Node { return node(rex.Cat, a, a, n) }
	areCoded(t, []coded{
		{ahead(empty), "byte a;byte a"},
		{ahead(b), "byte a;byte a;byte b"},
		{ahead(begin), "byte a;byte a;begin"},
		{ahead(end), "byte a;byte a;end"},
		{ahead(node(rex.Cat, b, b)), "byte a;byte a;byte b;byte b"},
		{ahead(node(rex.Alt, b, a)), "byte a;byte a;split 4 6;byte b;jump 7;byte a"},
		{ahead(node(rex.Star, b)), "byte a;byte a;split 4 6;byte b;jump 3"},
		{ahead(node(rex.Plus, b)), "byte a;byte a;byte b;split 3 5"},
		{ahead(node(rex.Maybe, b)), "byte a;byte a;split 4 5;byte b"},
		{ahead(group(2, b)), "byte a;byte a;save 4;byte b;save 5"},
		{node(rex.Cat, node(rex.Star, a), node(rex.Plus, b), a), "split 2 4;byte a;jump 1;byte b;split 4 6;byte a"},
	})
}

func TestCatsAndAlts(t *testing.T) {
	areCoded(t, []coded{
		{node(rex.Cat, a, b, a), "byte a;byte b;byte a"},
		{node(rex.Cat, begin, a, b, end), "begin;byte a;byte b;end"},
		{node(rex.Alt, a, b, a), "split 2 4;byte a;jump 8;split 5 7;byte b;jump 8;byte a"},
		{node(rex.Alt, a, b, a, end), "split 2 4;byte a;jump 11;split 5 7;byte b;jump 11;split 8 10;byte a;jump 11;end"},
		{node(rex.Alt, a, node(rex.Alt, b, a)), "split 2 4;byte a;jump 8;split 5 7;byte b;jump 8;byte a"},
		{node(rex.Alt, node(rex.Alt, a, b), a), "split 2 7;split 3 5;byte a;jump 6;byte b;jump 8;byte a"},
		{node(rex.Alt, node(rex.Cat, a, b), b), "split 2 5;byte a;byte b;jump 6;byte b"},
		{node(rex.Cat, node(rex.Alt, a, b), b), "split 2 4;byte a;jump 5;byte b;byte b"},
		{node(rex.Cat, node(rex.Cat, a, b), node(rex.Cat, b, a)), "byte a;byte b;byte b;byte a"},
	})
	isCompiled(t, row(api.MaxProg-3), joined(program("save 0"), slices.Repeat(program("byte a"), api.MaxProg-3), program("save 1;match")))
}

func TestAltsOfManyKids(t *testing.T) {
	for many := 2; 3*many-2+3 <= api.MaxProg; many++ {
		want, behind := program("save 0"), 3*many-1
		for i := range many - 1 {
			from := 1 + 3*i
			want = append(want, prog.Instr{Op: prog.Split, X: from + 1, Y: from + 3}, program("byte a")[0], prog.Instr{Op: prog.Jump, X: behind})
		}
		isCompiled(t, node(rex.Alt, slices.Repeat([]rex.Node{a}, many)...), append(want, program("byte a;save 1;match")...))
	}
}

func TestKidsWithoutCode(t *testing.T) {
	areCoded(t, []coded{
		{node(rex.Cat, empty, empty), ""},
		{node(rex.Cat, empty, a), "byte a"},
		{node(rex.Cat, a, empty), "byte a"},
		{node(rex.Cat, a, empty, b), "byte a;byte b"},
		{node(rex.Cat, empty, empty, node(rex.Cat, empty, empty)), ""},
		{node(rex.Alt, empty, empty), "split 2 3;jump 3"},
		{node(rex.Alt, a, empty), "split 2 4;byte a;jump 4"},
		{node(rex.Alt, empty, a), "split 2 3;jump 4;byte a"},
		{node(rex.Alt, empty, empty, empty), "split 2 3;jump 5;split 4 5;jump 5"},
		{node(rex.Alt, a, empty, b), "split 2 4;byte a;jump 7;split 5 6;jump 7;byte b"},
		{node(rex.Star, empty), "split 2 3;jump 1"},
		{node(rex.Plus, empty), "split 1 2"},
		{node(rex.Maybe, empty), "split 2 2"},
		{group(1, empty), "save 2;save 3"},
		{node(rex.Star, node(rex.Cat, empty, empty)), "split 2 3;jump 1"},
		{node(rex.Plus, node(rex.Cat, empty, empty)), "split 1 2"},
		{node(rex.Cat, a, node(rex.Plus, empty), b), "byte a;split 2 3;byte b"},
	})
}

func TestKindsInStarsPlusesAndMaybes(t *testing.T) {
	areCoded(t, []coded{
		{node(rex.Star, node(rex.Star, a)), "split 2 6;split 3 5;byte a;jump 2;jump 1"},
		{node(rex.Plus, node(rex.Plus, a)), "byte a;split 1 3;split 1 4"},
		{node(rex.Maybe, node(rex.Maybe, a)), "split 2 4;split 3 4;byte a"},
		{node(rex.Star, node(rex.Plus, a)), "split 2 5;byte a;split 2 4;jump 1"},
		{node(rex.Plus, node(rex.Star, a)), "split 2 4;byte a;jump 1;split 1 5"},
		{node(rex.Maybe, node(rex.Star, a)), "split 2 5;split 3 5;byte a;jump 2"},
		{node(rex.Star, node(rex.Alt, a, b)), "split 2 7;split 3 5;byte a;jump 6;byte b;jump 1"},
		{node(rex.Plus, node(rex.Alt, a, b)), "split 2 4;byte a;jump 5;byte b;split 1 6"},
		{node(rex.Alt, node(rex.Star, a), node(rex.Plus, b)), "split 2 6;split 3 5;byte a;jump 2;jump 8;byte b;split 6 8"},
		{group(1, node(rex.Plus, group(2, a))), "save 2;save 4;byte a;save 5;split 2 6;save 3"},
		{node(rex.Plus, begin), "begin;split 1 3"},
		{node(rex.Maybe, end), "split 2 3;end"},
	})
}

func TestNumbersOfSaves(t *testing.T) {
	for index := 1; index <= api.MaxGroups; index++ {
		areCoded(t, []coded{
			{group(index, a), fmt.Sprintf("save %d;byte a;save %d", 2*index, 2*index+1)},
			{node(rex.Cat, group(index, empty), group(index, empty)), fmt.Sprintf("save %d;save %d;save %d;save %d", 2*index, 2*index+1, 2*index, 2*index+1)},
		})
	}
	areCoded(t, []coded{
		{group(9, group(1, group(9, b))), "save 18;save 2;save 18;byte b;save 19;save 3;save 19"},
		{group(1, node(rex.Cat, group(2, a), group(3, b))), "save 2;save 4;byte a;save 5;save 6;byte b;save 7;save 3"},
	})
}

// P8.1 and P8.2: how long a program may be

// lengthened is a node with as many Ones ahead of it, or behind it, as make a code of that length.
func lengthened(n rex.Node, length int, ahead bool) rex.Node {
	kids := slices.Repeat([]rex.Node{b}, length-prog.Length(n))
	if ahead {
		return node(rex.Cat, append(kids, n)...)
	}
	return node(rex.Cat, append([]rex.Node{n}, kids...)...)
}

func TestHowLongAProgramMayBe(t *testing.T) {
	const most = api.MaxProg - 3
	list := append(leaves(), node(rex.Cat, a, b), node(rex.Alt, a, b), node(rex.Alt, a, a, a), node(rex.Star, a), node(rex.Plus, a), node(rex.Maybe, a), group(1, a), node(rex.Alt, empty, empty))
	for _, n := range list {
		for _, ahead := range []bool{true, false} {
			for _, length := range []int{most - 1, most} {
				whole := lengthened(n, length, ahead)
				isCompiled(t, whole, programOf(whole))
			}
			for _, length := range []int{most + 1, most + 2, 2 * most} {
				isRefused(t, lengthened(n, length, ahead), api.ErrFull)
			}
		}
	}
	for kind, own := range map[int]int{rex.Star: 2, rex.Plus: 1, rex.Maybe: 1, rex.Group: 2} {
		whole := within(kind, (most-1)/own, a)
		isCompiled(t, whole, programOf(whole))
		for length := most - 2; length <= most; length++ {
			whole := within(kind, 1, row(length-own))
			isCompiled(t, whole, programOf(whole))
		}
		isRefused(t, within(kind, 1, row(most+1-own)), api.ErrFull)
		isRefused(t, within(kind, most+1, empty), api.ErrFull)
	}
	bars := node(rex.Alt, slices.Repeat([]rex.Node{empty}, most/2+1)...)
	isCompiled(t, bars, programOf(bars))
	isRefused(t, node(rex.Alt, slices.Repeat([]rex.Node{empty}, most/2+2)...), api.ErrFull)
}

func TestGreatNodes(t *testing.T) {
	const great = 1 << 18
	isRefused(t, row(great), api.ErrFull)
	isRefused(t, node(rex.Alt, slices.Repeat([]rex.Node{empty}, great)...), api.ErrFull)
	areCoded(t, []coded{{node(rex.Cat, slices.Repeat([]rex.Node{empty}, great)...), ""}})
	if length := prog.Length(node(rex.Alt, slices.Repeat([]rex.Node{a}, great)...)); length != 3*great-2 {
		t.Errorf("a great Alt has a length of %d", length)
	}
}

func TestDeepNodes(t *testing.T) {
	const deep = 1 << 16
	for kind, own := range map[int]int{rex.Star: 2, rex.Plus: 1, rex.Maybe: 1, rex.Group: 2} {
		n := within(kind, deep, a)
		if !prog.Right(n) || prog.Length(n) != own*deep+1 {
			t.Errorf("a deep node of kind %d has a length of %d", kind, prog.Length(n))
		}
		isRefused(t, n, api.ErrFull)
		wrong := within(kind, deep, node(rex.Cat))
		if prog.Right(wrong) || prog.Length(wrong) != 0 {
			t.Errorf("a deep node of kind %d that is wrong has a length of %d", kind, prog.Length(wrong))
		}
		isRefused(t, wrong, api.ErrKind)
	}
	n := a
	for range deep {
		n = node(rex.Cat, empty, n)
	}
	areCoded(t, []coded{{n, "byte a"}})
}

// P8.1: Right

// family is a row of numbers of kids that a kind may have, of 0 to 3.
func family(kind int) string {
	return map[int]string{
		rex.Empty: "0", rex.One: "0", rex.Begin: "0", rex.End: "0",
		rex.Cat: "23", rex.Alt: "23",
		rex.Star: "1", rex.Plus: "1", rex.Maybe: "1", rex.Group: "1",
	}[kind]
}

// anyNodes is nodes of all kinds and of none, with all numbers of kids, with indexes and sets, as the chapter has them right or wrong.
func anyNodes() (right, wrong []rex.Node) {
	kinds := []int{math.MinInt, -256, -10, -2, -1, 0, 1, 2, 3, 4, 5, 6, 7, 8, 9, 10, 11, 12, 255, 256, 257, 1 << 32, math.MaxInt}
	indexes := []int{math.MinInt, -1, 0, 1, 2, api.MaxGroups - 1, api.MaxGroups, api.MaxGroups + 1, 256 + 1, 1<<32 + 1, math.MaxInt}
	sets := []class.Set{{}, class.All(), class.Of('a'), class.Of(0), class.Of(64), class.Of(128), class.Of(255)}
	for _, kind := range kinds {
		for kids := range 4 {
			for _, index := range indexes {
				for _, set := range sets {
					n := rex.Node{Kind: kind, Index: index, Set: set, Kids: slices.Repeat([]rex.Node{a}, kids)}
					is := strings.Contains(family(kind), strconv.Itoa(kids))
					if kind == rex.Group {
						is = is && slices.Contains([]int{1, 2, api.MaxGroups - 1, api.MaxGroups}, index)
					} else {
						is = is && index == 0
					}
					if kind != rex.One {
						is = is && set == class.Set{}
					}
					if is {
						right = append(right, n)
					} else {
						wrong = append(wrong, n)
					}
				}
			}
		}
	}
	return right, wrong
}

func TestRight(t *testing.T) {
	right, wrong := anyNodes()
	if len(right) != 3+7+2*2+3+4 {
		t.Fatalf("the tests have %d right nodes", len(right))
	}
	for _, n := range right {
		isOfTheWords(t, n)
	}
	for _, n := range wrong {
		isWrong(t, n)
	}
	for _, n := range []rex.Node{{}, {Kids: []rex.Node{}}, {Kind: rex.One, Kids: []rex.Node{}}, node(rex.Cat, slices.Repeat([]rex.Node{a}, 300)...), node(rex.Alt, slices.Repeat([]rex.Node{a}, 300)...), node(rex.Cat, group(1, a), group(1, group(1, a)))} {
		if !prog.Right(n) {
			t.Errorf("%s isn't right", told(n))
		}
	}
}

// isWrong asks what is told of a node that isn't right.
func isWrong(t *testing.T, n rex.Node) {
	t.Helper()
	if prog.Right(n) || prog.Length(n) != 0 {
		t.Errorf("%s: right: %t, a length of %d", told(n), prog.Right(n), prog.Length(n))
	}
	isRefused(t, n, api.ErrKind)
}

// holders is nodes that have a node in them, that are right if it is.
func holders(n rex.Node) []rex.Node {
	return []rex.Node{
		node(rex.Cat, n, a), node(rex.Cat, a, n), node(rex.Cat, a, n, b), node(rex.Alt, n, a), node(rex.Alt, a, n), node(rex.Alt, a, n, b),
		node(rex.Star, n), node(rex.Plus, n), node(rex.Maybe, n), group(1, n),
	}
}

func TestWrongDeepWithin(t *testing.T) {
	for _, n := range holders(node(rex.Cat, a, b)) {
		isOfTheWords(t, n)
	}
	_, wrong := anyNodes()
	for i, n := range wrong {
		for _, holder := range holders(n) {
			isWrong(t, holder)
			if i%50 == 0 {
				for _, above := range holders(node(rex.Alt, empty, holder)) {
					isWrong(t, above)
				}
			}
		}
	}
	// A kid that isn't asked for makes no right node, whatever it is.
	for _, kid := range append(leaves(), node(rex.Cat), node(rex.Star, a)) {
		for _, kind := range []int{rex.Empty, rex.One, rex.Begin, rex.End} {
			isWrong(t, node(kind, kid))
		}
	}
}

// P8.1: errors, and which comes first

func TestErrorsOfCompile(t *testing.T) {
	wrong := []rex.Node{node(rex.Cat), node(rex.Cat, a), node(rex.Star), group(0, a), group(api.MaxGroups+1, a), node(-1), node(rex.End + 1), {Kind: rex.Begin, Set: class.All()}, {Kind: rex.One, Index: 1}}
	for _, n := range wrong {
		isRefused(t, n, api.ErrKind)
		long := slices.Repeat([]rex.Node{a}, api.MaxProg)
		isRefused(t, node(rex.Cat, append(long, n)...), api.ErrKind)
		isRefused(t, node(rex.Alt, append([]rex.Node{n}, long...)...), api.ErrKind)
		isRefused(t, within(rex.Group, api.MaxProg, n), api.ErrKind)
	}
	isRefused(t, rex.Node{Kind: rex.Cat, Index: 1, Kids: slices.Repeat([]rex.Node{a}, api.MaxProg)}, api.ErrKind)
	isRefused(t, node(rex.Star, slices.Repeat([]rex.Node{a}, api.MaxProg)...), api.ErrKind)
}

func TestErrorsOfOf(t *testing.T) {
	groups := strings.Repeat("()", api.MaxGroups+1)
	for s, want := range map[string]error{
		strings.Repeat("a", api.MaxRegex+1):        api.ErrLong,
		strings.Repeat("a", 4*api.MaxProg):         api.ErrLong,
		strings.Repeat("(", api.MaxRegex+1):        api.ErrLong,
		"*" + strings.Repeat("a", api.MaxRegex):    api.ErrLong,
		groups + strings.Repeat("a", api.MaxRegex): api.ErrLong,
		"(":                api.ErrRegex,
		")":                api.ErrRegex,
		"*":                api.ErrRegex,
		"a|*":              api.ErrRegex,
		"[":                api.ErrRegex,
		"[]":               api.ErrRegex,
		"[b-a]":            api.ErrRegex,
		"a\\":              api.ErrRegex,
		groups + ")":       api.ErrRegex,
		"+" + groups:       api.ErrRegex,
		groups:             api.ErrFull,
		"a" + groups + "|": api.ErrFull,
		strings.Repeat("(", 10) + strings.Repeat(")", 10): api.ErrFull,
	} {
		isRefusedOf(t, s, want)
	}
}

func TestOfTexts(t *testing.T) {
	for s, code := range map[string]string{
		"":        "save 0;save 1;match",
		"a":       "save 0;byte a;save 1;match",
		"a|":      "save 0;split 2 4;byte a;jump 4;save 1;match",
		"|a":      "save 0;split 2 3;jump 4;byte a;save 1;match",
		"^a$":     "save 0;begin;byte a;end;save 1;match",
		"a+b?":    "save 0;byte a;split 1 3;split 4 5;byte b;save 1;match",
		"(a*)b":   "save 0;save 2;split 3 5;byte a;jump 2;save 3;byte b;save 1;match",
		"(a|bc)*": "save 0;split 2 10;save 2;split 4 6;byte a;jump 8;byte b;byte c;save 3;jump 1;save 1;match",
		"[a-c]":   "save 0;byte abc;save 1;match",
		"()()":    "save 0;save 2;save 3;save 4;save 5;save 1;match",
		"((a))":   "save 0;save 2;save 4;byte a;save 5;save 3;save 1;match",
	} {
		isCompiledOf(t, s, program(code))
	}
	point, err := prog.Of(".")
	if err != nil || len(point) != 4 || point[1].Set != class.Of('\n').Not() {
		t.Errorf("Of a point is %v, %v", point, err)
	}
}
