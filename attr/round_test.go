package attr_test

import (
	"strings"
	"testing"

	"millwright/api"
	"millwright/attr"
)

// P18.2

// isKept wants that attributes are parsed from their text as they were.
func isKept(t *testing.T, a attr.Attr) {
	t.Helper()
	if !attr.Right(a) {
		t.Fatalf("%d with %s isn't right", a.Flags, told(a.Prog))
	}
	s := attr.Text(a)
	if got, err := attr.Parse(s); err != nil || got != a {
		t.Errorf("%d with %s is %s, and that is %d with %s, %v", a.Flags, told(a.Prog), told(s), got.Flags, told(got.Prog), err)
	}
}

func TestWhatIsRightIsKept(t *testing.T) {
	progs := programs()
	for b := range 256 {
		progs = append(progs, one(b), "V"+one(b), one(b)+"P", "a"+one(b)+"b", strings.Repeat(one(b), api.MaxWord))
	}
	for flags := range 256 {
		for _, prog := range progs {
			isKept(t, attr.Attr{Flags: flags, Prog: prog})
		}
	}
}

func TestWhatIsRightIsKeptWithoutAPlan(t *testing.T) {
	c := chance(2)
	for range 60000 {
		isKept(t, attr.Attr{Flags: c.below(256), Prog: c.text(api.MaxWord + 1)})
	}
}

// What is parsed is right, and merged with what is right it stays so.
func TestWhatIsParsedIsRight(t *testing.T) {
	c := chance(3)
	n := 0
	for range 60000 {
		a, err := attr.Parse(lettersOf(c.below(256)) + c.text(200))
		b, errB := attr.Parse(c.text(20))
		if err != nil || errB != nil {
			continue
		}
		n++
		isKept(t, a)
		isKept(t, b)
		isKept(t, attr.Merge(a, b))
		isKept(t, attr.Merge(b, a))
	}
	if n < 10000 {
		t.Errorf("just %d pairs are right", n)
	}
}

// Texts of different attributes differ.
func TestTextsDiffer(t *testing.T) {
	of := make(map[string]attr.Attr)
	for flags := range 256 {
		for _, prog := range programs() {
			a := attr.Attr{Flags: flags, Prog: prog}
			s := attr.Text(a)
			if b, is := of[s]; is && a != b {
				t.Errorf("%s is of %d with %s and of %d with %s", told(s), a.Flags, told(a.Prog), b.Flags, told(b.Prog))
			}
			of[s] = a
		}
	}
}
