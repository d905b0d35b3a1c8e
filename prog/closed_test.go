package prog_test

import (
	"math"
	"slices"
	"testing"

	"millwright/api"
	"millwright/class"
	"millwright/prog"
	"millwright/rex"
)

// closed tells whether all places to which a row's instructions lead are places of it, asked in another way than Closed does.
func closed(p []prog.Instr) bool {
	var places []int
	for at, in := range p {
		switch {
		case in.Op == 1:
			places = append(places, in.X, in.Y)
		case in.Op == 2:
			places = append(places, in.X)
		case in.Op != 6:
			places = append(places, at+1)
		}
	}
	return len(p) != 0 && (len(places) == 0 || slices.Min(places) >= 0 && slices.Max(places) < len(p))
}

// isClosed holds Closed of a row against what it should be.
func isClosed(t *testing.T, p []prog.Instr, want bool) {
	t.Helper()
	if prog.Closed(p) != want {
		t.Errorf("Closed of %v isn't %t", p, want)
	}
}

func TestClosedOfNothing(t *testing.T) {
	isClosed(t, nil, false)
	isClosed(t, []prog.Instr{}, false)
	isClosed(t, program("match;match")[:0], false)
}

func TestClosedOfRows(t *testing.T) {
	for text, want := range map[string]bool{
		"match":                     true,
		"match;match":               true,
		"save 0;match":              true,
		"byte a;begin;end;match":    true,
		"match;byte a":              false,
		"match;byte a;match":        true,
		"byte a;match;byte b":       false,
		"byte a;match;jump 0":       true,
		"byte a;byte b":             false,
		"save 0;save 1":             false,
		"byte a;jump 0":             true,
		"byte a;split 0 1":          true,
		"jump 0":                    true,
		"split 0 0":                 true,
		"save 0;split 1 2;match":    true,
		"save 0;split 2 1;match":    true,
		"split 1 3;byte a;match":    false,
		"split 3 1;byte a;match":    false,
		"jump 3;byte a;match":       false,
		"jump 2;byte a;match":       true,
		"match;jump 2":              false,
		"match;split 0 2":           false,
		"split 3 3;match;match":     false,
		"split 0 2;jump 0;jump 3":   false,
		"split 0 2;jump 0;jump 2":   true,
		"match;match;save 2;jump 2": true,
	} {
		isClosed(t, program(text), want)
	}
}

func TestClosedOfEachOpAsTheLast(t *testing.T) {
	for op := prog.Byte; op <= prog.Match; op++ {
		// A Split and a Jump lead to 0 here.
		want := op == prog.Match || op == prog.Split || op == prog.Jump
		isClosed(t, []prog.Instr{{Op: op}}, want)
		isClosed(t, []prog.Instr{{Op: prog.Match}, {Op: op}}, want)
		isClosed(t, []prog.Instr{{Op: op}, {Op: prog.Match}}, true)
		isClosed(t, []prog.Instr{{Op: op}, {Op: op}, {Op: prog.Match}}, true)
	}
	for _, op := range []int{math.MinInt, -7, -1, 7, 8, 255, 256, 257, 258, 262, 1 << 32, 1<<32 + 6, math.MaxInt} {
		isClosed(t, []prog.Instr{{Op: op}}, false)
		isClosed(t, []prog.Instr{{Op: prog.Match}, {Op: op}}, false)
		isClosed(t, []prog.Instr{{Op: op}, {Op: prog.Match}}, true)
		isClosed(t, []prog.Instr{{Op: op, X: -1, Y: 99}, {Op: prog.Match}}, true)
	}
}

func TestWhereSplitsAndJumpsMayLead(t *testing.T) {
	for length := 1; length <= 5; length++ {
		for at := range length {
			for _, place := range []int{math.MinInt, -length, -2, -1, 0, 1, length - 2, length - 1, length, length + 1, 256, 1 << 32, math.MaxInt} {
				p := slices.Repeat(program("match"), length)
				want := place >= 0 && place < length
				for _, in := range []prog.Instr{{Op: prog.Split, X: place}, {Op: prog.Split, Y: place}, {Op: prog.Split, X: place, Y: place}, {Op: prog.Split, X: place, Y: length - 1}, {Op: prog.Split, X: length - 1, Y: place}, {Op: prog.Jump, X: place}, {Op: prog.Jump, X: place, Y: -1}, {Op: prog.Jump, X: place, Y: length}} {
					p[at] = in
					isClosed(t, p, want)
				}
				p[at] = prog.Instr{Op: prog.Jump, X: length - 1, Y: place}
				isClosed(t, p, true)
				p[at] = prog.Instr{Op: prog.Match, X: place, Y: place, Set: class.All()}
				isClosed(t, p, true)
				p[at] = prog.Instr{Op: prog.Save, X: place, Y: place}
				isClosed(t, p, at < length-1)
			}
		}
	}
}

func TestClosedOfAllShortRows(t *testing.T) {
	all := func(ops []int, places int) []prog.Instr {
		var out []prog.Instr
		for _, op := range ops {
			for x := -1; x <= places; x++ {
				for y := -1; y <= places; y++ {
					out = append(out, prog.Instr{Op: op, X: x, Y: y})
				}
			}
		}
		return out
	}
	for _, first := range all([]int{-1, 0, 1, 2, 3, 4, 5, 6, 7}, 2) {
		isClosed(t, []prog.Instr{first}, closed([]prog.Instr{first}))
		for _, second := range all([]int{-1, 0, 1, 2, 3, 4, 5, 6, 7}, 2) {
			p := []prog.Instr{first, second}
			isClosed(t, p, closed(p))
		}
	}
	few := all([]int{prog.Split, prog.Jump, prog.Match}, 3)
	for _, first := range few {
		for _, second := range few {
			for _, third := range few {
				p := []prog.Instr{first, second, third}
				isClosed(t, p, closed(p))
			}
		}
	}
}

func TestProgramsThatAreSpoilt(t *testing.T) {
	whole, err := prog.Of("(a|b*)+c?$")
	if err != nil || !prog.Closed(whole) {
		t.Fatalf("%v, %v", whole, err)
	}
	for at, in := range whole {
		isClosed(t, whole[:at], closed(whole[:at]))
		for _, place := range []int{-1, len(whole)} {
			p := slices.Clone(whole)
			if in.Op == prog.Jump || in.Op == prog.Split {
				p[at].X = place
				isClosed(t, p, false)
			}
			if in.Op == prog.Split {
				p[at].X, p[at].Y = in.X, place
				isClosed(t, p, false)
			}
		}
	}
	isClosed(t, whole[:len(whole)-1], false)
}

// Rules for every call

// someNodes is right nodes of all kinds, and some that are wrong, or too great.
func someNodes() []rex.Node {
	list := append(holders(node(rex.Alt, a, node(rex.Star, b))), leaves()...)
	return append(list, node(rex.Cat), node(rex.Star, a, b), node(10, a), group(0, a), rex.Node{Kind: rex.Empty, Set: class.All()}, row(api.MaxProg))
}

// copied is a node apart, with the room behind its kids.
func copied(n rex.Node) rex.Node {
	kids := n.Kids[:cap(n.Kids)]
	apart := make([]rex.Node, len(kids))
	for i, kid := range kids {
		apart[i] = copied(kid)
	}
	n.Kids = apart[:len(n.Kids)]
	return n
}

// asBefore tells whether two nodes are the same, with the room behind their kids.
func asBefore(n, kept rex.Node) bool {
	if n.Kind != kept.Kind || n.Index != kept.Index || n.Set != kept.Set || len(n.Kids) != len(kept.Kids) {
		return false
	}
	return slices.EqualFunc(n.Kids[:cap(n.Kids)], kept.Kids[:cap(kept.Kids)], asBefore)
}

func TestNoCallChangesANode(t *testing.T) {
	room := []rex.Node{node(rex.Star, a), b, node(rex.Plus, group(1, a)), node(-1, a), row(3)}
	list := append(someNodes(), node(rex.Cat, room[:3]...), node(rex.Alt, room[1:3]...), node(rex.Maybe, room[:1]...), node(rex.Empty, room[:0]...))
	for _, n := range list {
		kept := copied(n)
		prog.Right(n)
		prog.Length(n)
		prog.Compile(n)
		if !asBefore(n, kept) {
			t.Errorf("a node was changed: %s, not %s", told(n), told(kept))
		}
	}
}

func TestNoCallChangesARow(t *testing.T) {
	rows := [][]prog.Instr{program("save 0;split 2 4;byte a;jump 1;save 1;match"), program("split 9 9;byte a"), {{Op: 9, X: -1, Y: -2, Set: class.All()}}}
	for _, room := range rows {
		kept := slices.Clone(room)
		for length := range len(room) + 1 {
			prog.Closed(room[:length])
			if !slices.Equal(room, kept) {
				t.Errorf("a row was changed: %v, not %v", room, kept)
			}
		}
	}
}

// overwritten writes over a row, and the room behind it.
func overwritten(p []prog.Instr) {
	for i := range p[:cap(p)] {
		p[:cap(p)][i] = prog.Instr{Op: 77, X: 77, Y: 77, Set: class.All()}
	}
}

func TestAnswersAreTheCallers(t *testing.T) {
	for _, n := range someNodes() {
		kept := copied(n)
		first, err := prog.Compile(n)
		second, _ := prog.Compile(n)
		want := slices.Clone(second)
		overwritten(first)
		third, again := prog.Compile(n)
		if !slices.Equal(second, want) || !slices.Equal(third, want) || err != nil && again == nil || !asBefore(n, kept) {
			t.Errorf("programs of %s share their room, or aren't the same each time", told(n))
		}
	}
	for _, s := range []string{"", "a", "a*", "(a|b)+c?", "^[a-c]$"} {
		first, _ := prog.Of(s)
		second, _ := prog.Of(s)
		want := slices.Clone(first)
		overwritten(first)
		third, _ := prog.Of(s)
		if !slices.Equal(second, want) || !slices.Equal(third, want) {
			t.Errorf("programs of %q share their room, or aren't the same each time", s)
		}
	}
}

func TestANodeThatIsWrittenOverLeavesItsProgram(t *testing.T) {
	n := node(rex.Cat, set('a'), node(rex.Star, set('b')))
	p, _ := prog.Compile(n)
	want := slices.Clone(p)
	n.Kids[0].Set, n.Kids[1].Kids[0] = class.All(), end
	if !slices.Equal(p, want) {
		t.Errorf("a program was changed with its node: %v, not %v", p, want)
	}
}
