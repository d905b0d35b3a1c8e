package class_test

import (
	"math"
	"slices"
	"testing"

	"millwright/class"
)

const full = math.MaxUint64

// plain is a set written down in another way: of each byte whether it is in it.
type plain [256]bool

// read is a set's words, read byte by byte.
func read(s class.Set) plain {
	var p plain
	b := 0
	for _, word := range s {
		for range 64 {
			p[b] = word%2 == 1
			word /= 2
			b++
		}
	}
	return p
}

// set is the words of a plain set: the bits are counted up from byte 0 on.
func (p plain) set() class.Set {
	var s class.Set
	word, bit := 0, uint64(1)
	for _, in := range p {
		if in {
			s[word] += bit
		}
		if bit *= 2; bit == 0 {
			word, bit = word+1, 1
		}
	}
	return s
}

// list is the bytes of a plain set, rising.
func (p plain) list() []byte {
	var out []byte
	for b, in := range p {
		if in {
			out = append(out, byte(b))
		}
	}
	return out
}

// between is all bytes from one to another one.
func between(low, high int) plain {
	var p plain
	for b := low; b <= high; b++ {
		p[b] = true
	}
	return p
}

// these is just some bytes.
func these(list ...byte) plain {
	var p plain
	for _, b := range list {
		p[b] = true
	}
	return p
}

// edges is the bytes at the edges of words and of all.
func edges() []byte { return []byte{0, 63, 64, 127, 128, 191, 192, 255} }

// near is a byte and its neighbours.
func near(b byte) []byte {
	list := []byte{b}
	if b > 0 {
		list = append(list, b-1)
	}
	if b < 255 {
		list = append(list, b+1)
	}
	return list
}

// allBytes is all bytes, rising.
func allBytes() []byte { return between(0, 255).list() }

// mixed is so many sets of words without a plan, the same ones each time: with many bytes, half of them, and few.
func mixed(count int) []class.Set {
	var out []class.Set
	state := uint64(1)
	next := func() uint64 {
		state ^= state << 13
		state ^= state >> 7
		state ^= state << 17
		return state
	}
	for i := range count {
		var s class.Set
		for w := range s {
			switch i % 3 {
			case 0:
				s[w] = next()
			case 1:
				s[w] = next() & next() & next() & next()
			default:
				s[w] = next() | next() | next() | next()
			}
		}
		out = append(out, s)
	}
	return out
}

// kinds is sets of every kind, the empty and the full one first.
func kinds() []class.Set {
	out := []class.Set{
		{}, {full, full, full, full},
		{full, 0, 0, 0}, {0, full, 0, 0}, {0, 0, full, 0}, {0, 0, 0, full}, {full, 0, full, 0}, {0, full, full, 0},
		{1, 1, 1, 1}, {1 << 63, 1 << 63, 1 << 63, 1 << 63}, {1, 2, 3, 4}, {0, 1 << 63, 1, 0},
		{0xaaaaaaaaaaaaaaaa, 0xaaaaaaaaaaaaaaaa, 0xaaaaaaaaaaaaaaaa, 0xaaaaaaaaaaaaaaaa},
		{0x5555555555555555, 0x5555555555555555, 0x5555555555555555, 0x5555555555555555},
		these('a', 'b', 'c').set(), these('b').set(), these('a', 'd').set(), these('d', 'e').set(),
	}
	for _, b := range edges() {
		out = append(out, these(b).set(), these(near(b)...).set(), between(0, int(b)).set(), between(int(b), 255).set())
	}
	return append(out, mixed(24)...)
}

// singles is the sets of one byte each.
func singles() []class.Set {
	var out []class.Set
	for b := range 256 {
		out = append(out, these(byte(b)).set())
	}
	return out
}

// isSet holds a set against the words that it should have.
func isSet(t *testing.T, what string, got, want class.Set) {
	t.Helper()
	if got[0] != want[0] || got[1] != want[1] || got[2] != want[2] || got[3] != want[3] {
		t.Errorf("%s is %x, not %x", what, got, want)
	}
}

// isBool holds a bool against the one that it should be.
func isBool(t *testing.T, what string, got, want bool) {
	t.Helper()
	if got != want {
		t.Errorf("%s is %t, not %t", what, got, want)
	}
}

func sameBytes(a, b []byte) bool { return len(a) == len(b) && string(a) == string(b) }

// P6.1: which bit of which word a byte is

func TestWordsOfTheEdges(t *testing.T) {
	for b, want := range map[byte]class.Set{
		0: {1, 0, 0, 0}, 1: {2, 0, 0, 0}, 62: {1 << 62, 0, 0, 0}, 63: {1 << 63, 0, 0, 0},
		64: {0, 1, 0, 0}, 65: {0, 2, 0, 0}, 126: {0, 1 << 62, 0, 0}, 127: {0, 1 << 63, 0, 0},
		128: {0, 0, 1, 0}, 129: {0, 0, 2, 0}, 190: {0, 0, 1 << 62, 0}, 191: {0, 0, 1 << 63, 0},
		192: {0, 0, 0, 1}, 193: {0, 0, 0, 2}, 254: {0, 0, 0, 1 << 62}, 255: {0, 0, 0, 1 << 63},
		'a': {0, 1 << 33, 0, 0},
	} {
		isSet(t, "Of of an edge", class.Of(b), want)
		isSet(t, "Span of an edge", class.Span(b, b), want)
		isBool(t, "Has of an edge", want.Has(b), true)
		if list := want.Bytes(); !sameBytes(list, []byte{b}) {
			t.Errorf("Bytes of %x: %v", want, list)
		}
	}
}

func TestWordOfEachByte(t *testing.T) {
	for b := range 256 {
		want := these(byte(b)).set()
		isSet(t, "Of of one byte", class.Of(byte(b)), want)
		isSet(t, "Span of one byte", class.Span(byte(b), byte(b)), want)
		for other := range 256 {
			isBool(t, "Has", want.Has(byte(other)), other == b)
			isBool(t, "Has of what isn't in it", class.Set{^want[0], ^want[1], ^want[2], ^want[3]}.Has(byte(other)), other != b)
		}
	}
}

// P6.1: Of

func TestOf(t *testing.T) {
	for _, c := range []struct {
		list []byte
		want class.Set
	}{
		{nil, class.Set{}}, {[]byte{}, class.Set{}},
		{[]byte{0, 0}, class.Set{1}}, {[]byte{255, 255}, class.Set{0, 0, 0, 1 << 63}}, {[]byte{64, 64, 64}, class.Set{0, 1}},
		{[]byte{7, 9, 7}, class.Set{1<<7 | 1<<9}},
		{[]byte{2, 1, 0}, class.Set{7}}, {[]byte{255, 192, 191, 128, 127, 64, 63, 0}, class.Set{1 | 1<<63, 1 | 1<<63, 1 | 1<<63, 1 | 1<<63}},
		{[]byte("cab"), class.Set{0, 7 << 33}}, {[]byte("cbacba"), class.Set{0, 7 << 33}},
		{[]byte{'\n'}, class.Set{1 << 10}}, {[]byte{0x80, 0xff}, class.Set{0, 0, 1, 1 << 63}},
	} {
		isSet(t, "Of", class.Of(c.list...), c.want)
	}
	isSet(t, "Of of nothing", class.Of(), class.Set{})
	isSet(t, "Of of three", class.Of('c', 'a', 'b'), class.Set{0, 7 << 33})
}

func TestOfAllBytes(t *testing.T) {
	list := allBytes()
	want := class.Set{full, full, full, full}
	isSet(t, "Of of all", class.Of(list...), want)
	slices.Reverse(list)
	isSet(t, "Of of all, falling", class.Of(list...), want)
	isSet(t, "Of of all, twice", class.Of(append(list, list...)...), want)
}

func TestOfWithNeighbours(t *testing.T) {
	for _, b := range edges() {
		list := near(b)
		isSet(t, "Of of neighbours", class.Of(list...), these(list...).set())
		isSet(t, "Of of the neighbours alone", class.Of(list[1:]...), these(list[1:]...).set())
		for other := range 256 {
			isBool(t, "Has of a neighbour", class.Of(list...).Has(byte(other)), slices.Contains(list, byte(other)))
			isBool(t, "Has of the one between", class.Of(list[1:]...).Has(byte(other)), slices.Contains(list[1:], byte(other)))
		}
	}
}

func TestOfTwo(t *testing.T) {
	for a := range 256 {
		for b := range 256 {
			isSet(t, "Of of two", class.Of(byte(a), byte(b)), these(byte(a), byte(b)).set())
		}
	}
}

// P6.1: Span and All

func TestEverySpan(t *testing.T) {
	for low := range 256 {
		for high := range 256 {
			isSet(t, "Span", class.Span(byte(low), byte(high)), between(low, high).set())
		}
	}
}

func TestSpan(t *testing.T) {
	for _, c := range []struct {
		low, high byte
		want      class.Set
	}{
		{'a', 'c', class.Set{0, 7 << 33}}, {'a', 'a', class.Set{0, 1 << 33}}, {0, 0, class.Set{1}}, {255, 255, class.Set{0, 0, 0, 1 << 63}},
		{0, 255, class.Set{full, full, full, full}}, {0, 63, class.Set{full}}, {64, 127, class.Set{0, full}},
		{128, 191, class.Set{0, 0, full}}, {192, 255, class.Set{0, 0, 0, full}}, {0, 127, class.Set{full, full}}, {64, 191, class.Set{0, full, full}},
		{63, 64, class.Set{1 << 63, 1}}, {127, 128, class.Set{0, 1 << 63, 1}}, {191, 192, class.Set{0, 0, 1 << 63, 1}},
		{62, 65, class.Set{3 << 62, 3}}, {63, 192, class.Set{1 << 63, full, full, 1}},
		{1, 254, class.Set{full - 1, full, full, full >> 1}}, {0, 254, class.Set{full, full, full, full >> 1}}, {1, 255, class.Set{full - 1, full, full, full}},
		{'c', 'a', class.Set{}}, {1, 0, class.Set{}}, {255, 0, class.Set{}}, {255, 254, class.Set{}}, {64, 63, class.Set{}}, {128, 127, class.Set{}},
	} {
		isSet(t, "Span", class.Span(c.low, c.high), c.want)
	}
}

func TestAll(t *testing.T) {
	isSet(t, "All", class.All(), class.Set{full, full, full, full})
	isSet(t, "Not of All", class.All().Not(), class.Set{})
	isBool(t, "All is empty", class.All().Empty(), false)
	if class.All().Count() != 256 || !sameBytes(class.All().Bytes(), allBytes()) {
		t.Errorf("All has %d bytes: %v", class.All().Count(), class.All().Bytes())
	}
	for b := range 256 {
		isBool(t, "All has a byte", class.All().Has(byte(b)), true)
		isBool(t, "Not of All has a byte", class.All().Not().Has(byte(b)), false)
	}
}

// P6.1: the other calls, of any four words

// isOfOne holds the calls of one set against its plain bytes.
func isOfOne(t *testing.T, s class.Set) {
	t.Helper()
	p := read(s)
	not := p
	for b, in := range p {
		isBool(t, "Has", s.Has(byte(b)), in)
		not[b] = !in
	}
	isSet(t, "Not", s.Not(), not.set())
	isBool(t, "Empty", s.Empty(), len(p.list()) == 0)
	if s.Count() != len(p.list()) {
		t.Errorf("Count of %x: %d", s, s.Count())
	}
	if list := s.Bytes(); !sameBytes(list, p.list()) {
		t.Errorf("Bytes of %x: %v", s, list)
	}
	isSet(t, "Of of the Bytes", class.Of(s.Bytes()...), s)
}

// isOfTwo holds the calls of two sets against their plain bytes.
func isOfTwo(t *testing.T, a, b class.Set) {
	t.Helper()
	one, other := read(a), read(b)
	var union, meet plain
	within := true
	for i := range one {
		union[i] = one[i] || other[i]
		meet[i] = one[i] && other[i]
		within = within && (!one[i] || other[i])
	}
	isSet(t, "Union", a.Union(b), union.set())
	isSet(t, "Meet", a.Meet(b), meet.set())
	isBool(t, "Within", a.Within(b), within)
}

func TestCallsOfOne(t *testing.T) {
	for _, s := range slices.Concat(kinds(), singles(), mixed(300)) {
		isOfOne(t, s)
		isOfOne(t, s.Not())
	}
}

func TestCallsOfTwo(t *testing.T) {
	for _, a := range kinds() {
		for _, b := range kinds() {
			isOfTwo(t, a, b)
		}
		for _, b := range singles() {
			isOfTwo(t, a, b)
			isOfTwo(t, b, a)
		}
	}
}

func TestTheEmptyAndTheFullSet(t *testing.T) {
	empty, all := class.Set{}, class.Set{full, full, full, full}
	isSet(t, "Not of the empty set", empty.Not(), all)
	isSet(t, "Not of the full set", all.Not(), empty)
	isSet(t, "Union of both", empty.Union(all), all)
	isSet(t, "Union of both, turned around", all.Union(empty), all)
	isSet(t, "Meet of both", empty.Meet(all), empty)
	isSet(t, "Meet of both, turned around", all.Meet(empty), empty)
	isSet(t, "Union of the empty set with itself", empty.Union(empty), empty)
	isSet(t, "Meet of the full set with itself", all.Meet(all), all)
	isBool(t, "the empty set within the full one", empty.Within(all), true)
	isBool(t, "the full set within the empty one", all.Within(empty), false)
	isBool(t, "the empty set within itself", empty.Within(empty), true)
	isBool(t, "the full set within itself", all.Within(all), true)
	isBool(t, "the empty set is empty", empty.Empty(), true)
	isBool(t, "the full set is empty", all.Empty(), false)
	if empty.Count() != 0 || all.Count() != 256 {
		t.Errorf("Count: %d, %d", empty.Count(), all.Count())
	}
	if len(empty.Bytes()) != 0 || !sameBytes(all.Bytes(), allBytes()) {
		t.Errorf("Bytes: %v, %v", empty.Bytes(), all.Bytes())
	}
}

func TestAlikeApartAndWithin(t *testing.T) {
	for _, c := range []struct {
		a, b       class.Set
		within, in bool // a within b, b within a
	}{
		{these(1, 64, 200).set(), these(1, 64, 200).set(), true, true},
		{these(1, 64, 200).set(), these(2, 65, 201).set(), false, false},
		{these(1, 64).set(), these(1, 64, 200).set(), true, false},
		{these(200).set(), these(1, 64, 200).set(), true, false},
		{these(1, 64, 200).set(), these(1, 64, 201).set(), false, false},
		{between(0, 63).set(), between(64, 127).set(), false, false},
		{between(10, 20).set(), between(0, 255).set(), true, false},
		{between(63, 64).set(), between(63, 65).set(), true, false},
		{between(0, 100).set(), between(100, 255).set(), false, false},
		{between(128, 191).set(), between(127, 192).set(), true, false},
		{class.Set{}, these(255).set(), true, false},
		{class.Set{full - 1, full, full, full}, class.Set{full, full, full, full}, true, false},
		{class.Set{full, full, full, full >> 1}, class.Set{full, full, full, full}, true, false},
	} {
		isBool(t, "Within", c.a.Within(c.b), c.within)
		isBool(t, "Within, turned around", c.b.Within(c.a), c.in)
	}
}

func TestBytesRise(t *testing.T) {
	list := []byte{0, 5, 63, 64, 100, 127, 128, 150, 191, 192, 200, 255}
	falling := slices.Clone(list)
	slices.Reverse(falling)
	if got := class.Of(falling...).Bytes(); !sameBytes(got, list) {
		t.Errorf("Bytes: %v", got)
	}
	if got := (class.Set{1 << 63, 1 << 1, 1 << 62, 1}).Bytes(); !sameBytes(got, []byte{63, 65, 190, 192}) {
		t.Errorf("Bytes: %v", got)
	}
	for _, s := range kinds() {
		list := s.Bytes()
		for i := 1; i < len(list); i++ {
			if list[i-1] >= list[i] {
				t.Errorf("Bytes of %x: %d stands ahead of %d", s, list[i-1], list[i])
			}
		}
	}
}

func TestTheExampleOfTheChapter(t *testing.T) {
	s := class.Span('a', 'c')
	if s.Count() != 3 || string(s.Bytes()) != "abc" {
		t.Errorf("Span of a and c: %d bytes, %q", s.Count(), s.Bytes())
	}
}

// P6.2: the rules of a Boolean algebra

func TestRulesOfOne(t *testing.T) {
	empty, all := class.Set{}, class.Set{full, full, full, full}
	for _, s := range slices.Concat(kinds(), singles(), mixed(300)) {
		isSet(t, "Not of Not", s.Not().Not(), s)
		isSet(t, "Union with itself", s.Union(s), s)
		isSet(t, "Meet with itself", s.Meet(s), s)
		isSet(t, "Union with the empty set", s.Union(empty), s)
		isSet(t, "Meet with the empty set", s.Meet(empty), empty)
		isSet(t, "Union with the full set", s.Union(all), all)
		isSet(t, "Meet with the full set", s.Meet(all), s)
		isSet(t, "Union with what isn't in it", s.Union(s.Not()), all)
		isSet(t, "Meet with what isn't in it", s.Meet(s.Not()), empty)
		isBool(t, "within itself", s.Within(s), true)
		isBool(t, "the empty set within it", empty.Within(s), true)
		isBool(t, "within the full set", s.Within(all), true)
		isBool(t, "within the empty set", s.Within(empty), s == empty)
		isBool(t, "the full set within it", all.Within(s), s == all)
		isBool(t, "within what isn't in it", s.Within(s.Not()), s == empty)
		isBool(t, "empty", s.Empty(), s == empty)
		if s.Count()+s.Not().Count() != 256 {
			t.Errorf("Count of %x and of what isn't in it: %d, %d", s, s.Count(), s.Not().Count())
		}
	}
}

// rulesOfTwo holds what two sets make against the rules.
func rulesOfTwo(t *testing.T, a, b class.Set) {
	t.Helper()
	isSet(t, "Not of a Union", a.Union(b).Not(), a.Not().Meet(b.Not()))
	isSet(t, "Not of a Meet", a.Meet(b).Not(), a.Not().Union(b.Not()))
	isSet(t, "Union, turned around", a.Union(b), b.Union(a))
	isSet(t, "Meet, turned around", a.Meet(b), b.Meet(a))
	isSet(t, "Union with a Meet", a.Union(a.Meet(b)), a)
	isSet(t, "Meet with a Union", a.Meet(a.Union(b)), a)
	if a.Union(b).Count()+a.Meet(b).Count() != a.Count()+b.Count() {
		t.Errorf("Counts of %x and %x: %d and %d in one, in both %d, %d", a, b, a.Count(), b.Count(), a.Union(b).Count(), a.Meet(b).Count())
	}
	isBool(t, "each within the other one", a.Within(b) && b.Within(a), a == b)
	isBool(t, "Within by Union", a.Within(b), a.Union(b) == b)
	isBool(t, "Within by Meet", a.Within(b), a.Meet(b) == a)
	isBool(t, "Within by Not", a.Within(b), b.Not().Within(a.Not()))
	isBool(t, "Within by Empty", a.Within(b), a.Meet(b.Not()).Empty())
	isBool(t, "Meet within", a.Meet(b).Within(a), true)
	isBool(t, "within Union", a.Within(a.Union(b)), true)
}

func TestRulesOfTwo(t *testing.T) {
	list := append(kinds(), singles()...)
	for _, a := range list {
		for _, b := range list {
			rulesOfTwo(t, a, b)
		}
		rulesOfTwo(t, a, a.Not())
	}
}

func TestRulesOfThree(t *testing.T) {
	list := kinds()
	for _, a := range list {
		for _, b := range list {
			for _, c := range list {
				isSet(t, "Union, grouped otherwise", a.Union(b).Union(c), a.Union(b.Union(c)))
				isSet(t, "Meet, grouped otherwise", a.Meet(b).Meet(c), a.Meet(b.Meet(c)))
				isSet(t, "Meet, spread over Union", a.Meet(b.Union(c)), a.Meet(b).Union(a.Meet(c)))
				isSet(t, "Union, spread over Meet", a.Union(b.Meet(c)), a.Union(b).Meet(a.Union(c)))
				isBool(t, "Within over three", a.Within(b) && b.Within(c) && !a.Within(c), false)
			}
		}
	}
}

// Rules for every call

func TestNoCallChangesASet(t *testing.T) {
	for _, a := range kinds() {
		for _, b := range kinds() {
			s, other := a, b
			s.Union(other)
			s.Meet(other)
			s.Within(other)
			s.Not()
			s.Count()
			s.Empty()
			s.Bytes()
			s.Has(7)
			isSet(t, "a set behind its calls", s, a)
			isSet(t, "the other set", other, b)
		}
	}
}

func TestOfChangesNoList(t *testing.T) {
	whole := []byte("cab\x00\xff\x80cab@?room")
	kept := slices.Clone(whole)
	for n := range len(whole) + 1 {
		s := class.Of(whole[:n]...)
		isSet(t, "Of of a part", s, these(kept[:n]...).set())
	}
	if !slices.Equal(whole, kept) {
		t.Errorf("the list is %q", whole)
	}
}

func TestOfKeepsNoList(t *testing.T) {
	list := []byte("abc")
	s := class.Of(list...)
	copy(list, "xyz")
	isSet(t, "a set whose list was written over", s, class.Set{0, 7 << 33})
}

func TestBytesAreTheCallers(t *testing.T) {
	for _, s := range kinds() {
		kept := s
		want := read(s).list()
		first, second := s.Bytes(), s.Bytes()
		first = first[:cap(first)]
		for i := range first {
			first[i] ^= 0xff
		}
		isSet(t, "a set whose Bytes were written over", s, kept)
		if !sameBytes(second, want) || !sameBytes(s.Bytes(), want) {
			t.Errorf("two answers of Bytes of %x share their room", s)
		}
	}
}

func TestAllIsAlwaysAll(t *testing.T) {
	s := class.All()
	s[0], s[3] = 0, 0
	isSet(t, "All, behind one that was written over", class.All(), class.Set{full, full, full, full})
}

func FuzzSets(f *testing.F) {
	for _, s := range kinds() {
		f.Add(s[0], s[1], s[2], s[3], s[3], s[1], s[0], s[2], byte('a'), byte('c'))
	}
	f.Fuzz(func(t *testing.T, a0, a1, a2, a3, b0, b1, b2, b3 uint64, low, high byte) {
		a, b, span := class.Set{a0, a1, a2, a3}, class.Set{b0, b1, b2, b3}, class.Span(low, high)
		isSet(t, "Span", span, between(int(low), int(high)).set())
		for _, s := range []class.Set{a, b, span} {
			isOfOne(t, s)
			isOfTwo(t, a, s)
			rulesOfTwo(t, s, b)
		}
	})
}
