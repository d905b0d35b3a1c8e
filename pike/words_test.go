package pike_test

import (
	"slices"
	"testing"

	"millwright/class"
	"millwright/pike"
	"millwright/prog"
)

// walker goes by the chapter's words: one way at a time, the first one to its very end, and keeps all instructions and places at which a way has been.
type walker struct {
	code []prog.Instr
	text string
	been map[[2]int]bool
}

// from goes on at an instruction and a place, with what was kept by then: what the first way has kept that comes to a match from there.
func (w *walker) from(at, place int, kept map[int]int) (map[int]int, bool) {
	if at < 0 || at >= len(w.code) || w.been[[2]int{at, place}] {
		return nil, false
	}
	w.been[[2]int{at, place}] = true
	switch in := w.code[at]; in.Op {
	case 0:
		if place < len(w.text) && in.Set.Has(w.text[place]) {
			return w.from(at+1, place+1, kept)
		}
	case 1:
		if found, is := w.from(in.X, place, kept); is {
			return found, true
		}
		return w.from(in.Y, place, kept)
	case 2:
		return w.from(in.X, place, kept)
	case 3:
		more := map[int]int{in.X: place}
		for number, kept := range kept {
			if number != in.X {
				more[number] = kept
			}
		}
		return w.from(at+1, place, more)
	case 4:
		if place == 0 {
			return w.from(at+1, place, kept)
		}
	case 5:
		if place == len(w.text) {
			return w.from(at+1, place, kept)
		}
	case 6:
		return kept, place == len(w.text)
	}
	return nil, false
}

// matchByTheWords is the match that such a walk comes to.
func matchByTheWords(p []prog.Instr, s string) ([]int, bool) {
	w := walker{code: p, text: s, been: map[[2]int]bool{}}
	kept, is := w.from(0, 0, nil)
	if !is {
		return nil, false
	}
	var out []int
	for number := range 20 {
		place, is := kept[number]
		if !is {
			place = -1
		}
		out = append(out, place)
	}
	return out, true
}

// isOfTheWords holds a program's match of a text against such a walk's, and tells whether there is one.
func isOfTheWords(t *testing.T, p []prog.Instr, s string) bool {
	t.Helper()
	want, be := matchByTheWords(p, s)
	if got, is := pike.Match(p, s); is != be || !slices.Equal(got, want) {
		t.Errorf("%s matches %s: %t, %v, not %t, %v", told(p), toldText(s), is, got, be, want)
	}
	return be
}

// P9.1: programs of all kinds

func TestAllShortPrograms(t *testing.T) {
	list := program("byte a;save 2;begin;end;match;op 7")
	for x := -1; x <= 3; x++ {
		list = append(list, prog.Instr{Op: prog.Jump, X: x})
		for y := -1; y <= 3; y++ {
			list = append(list, prog.Instr{Op: prog.Split, X: x, Y: y})
		}
	}
	matches := 0
	each := func(p []prog.Instr) {
		for _, s := range []string{"", "a", "aa", "b"} {
			if isOfTheWords(t, p, s) {
				matches++
			}
		}
	}
	for _, first := range list {
		each([]prog.Instr{first})
		for _, second := range list {
			each([]prog.Instr{first, second})
			for _, third := range list {
				each([]prog.Instr{first, second, third})
			}
		}
	}
	if matches < 2000 {
		t.Errorf("%d matches alone", matches)
	}
}

// maker makes programs and texts without a plan, the same ones each time.
type maker struct {
	state uint64
}

func (m *maker) below(n int) int {
	m.state ^= m.state << 13
	m.state ^= m.state >> 7
	m.state ^= m.state << 17
	return int(m.state >> 33 % uint64(n))
}

func (m *maker) instruction(length int) prog.Instr {
	switch kind := m.below(16); {
	case kind < 4:
		return prog.Instr{Op: prog.Byte, Set: class.Of([]byte("abba")[m.below(3):][:1+m.below(2)]...)}
	case kind < 8:
		return prog.Instr{Op: prog.Split, X: m.below(length+2) - 1, Y: m.below(length+2) - 1}
	case kind < 9:
		return prog.Instr{Op: prog.Jump, X: m.below(length+2) - 1}
	case kind < 13:
		return prog.Instr{Op: prog.Save, X: m.below(22) - 1}
	case kind < 15:
		return prog.Instr{Op: prog.Match}
	}
	return prog.Instr{Op: prog.Begin + m.below(2)}
}

func (m *maker) program(length int) []prog.Instr {
	p := make([]prog.Instr, 0, length)
	for range length {
		p = append(p, m.instruction(length))
	}
	return p
}

func (m *maker) text(longest int) string {
	s := make([]byte, m.below(longest+1))
	for i := range s {
		s[i] = 'a' + byte(m.below(2))
	}
	return string(s)
}

func TestProgramsWithoutAPlan(t *testing.T) {
	m := &maker{state: 88172645463325252}
	matches, kept := 0, map[int]bool{}
	for i := range 60000 {
		p, s := m.program(2+i%24), m.text(6)
		if isOfTheWords(t, p, s) {
			matches++
			places, _ := pike.Match(p, s)
			for number, place := range places {
				if place > 0 {
					kept[number] = true
				}
			}
		}
	}
	if matches < 4000 || len(kept) != 20 {
		t.Errorf("%d matches alone, with %d numbers", matches, len(kept))
	}
}
