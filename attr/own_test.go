package attr_test

import (
	"errors"
	"testing"

	"millwright/attr"
)

// Rules for every call

func TestSameAnswersEachTime(t *testing.T) {
	c := chance(7)
	for range 20000 {
		s, flags, number := c.text(150), c.below(600)-100, c.below(600)-100
		a := attr.Attr{Flags: flags, Prog: s}
		parse, err := attr.Parse(s)
		text, right, had, merged := attr.Text(a), attr.Right(a), a.Has(number), attr.Merge(a, parse)
		_, _ = attr.Parse(text + s)
		_ = attr.Merge(merged, a)
		again, errAgain := attr.Parse(s)
		if again != parse || (errAgain == nil) != (err == nil) || err != nil && !errors.Is(errAgain, err) || attr.Text(a) != text || attr.Right(a) != right || a.Has(number) != had || attr.Merge(a, parse) != merged {
			t.Errorf("calls with %s and %d aren't the same each time", told(s), flags)
		}
		if a != (attr.Attr{Flags: flags, Prog: s}) {
			t.Errorf("a call changed %d with %s", flags, told(s))
		}
	}
}

// Texts are handed in as they are: bytes that were made a text don't reach what is answered.
func TestTextsAreKept(t *testing.T) {
	given := []byte("VQPcmp -s")
	a, err := attr.Parse(string(given))
	text, merged := attr.Text(a), attr.Merge(attr.Attr{Flags: 1}, a)
	clear(given)
	if err != nil || a != (attr.Attr{Flags: 144, Prog: "cmp -s"}) || text != "QVPcmp -s" || merged != (attr.Attr{Flags: 145, Prog: "cmp -s"}) {
		t.Errorf("behind cleared bytes: %+v, %v, %s, %+v", a, err, told(text), merged)
	}
}
