package stem_test

import (
	"slices"
	"strconv"
	"strings"
	"testing"

	"millwright/stem"
)

// P15.1, of Fill

// isFilled wants what a pattern is with a stem.
func isFilled(t *testing.T, pattern, s, want string) {
	t.Helper()
	if got := stem.Fill(pattern, s); got != want {
		t.Errorf("Fill(%s) is %s, not %s", told(pattern, s), told(got), told(want))
	}
}

func TestFill(t *testing.T) {
	long := strings.Repeat("s", 5000)
	cases := []struct{ pattern, stem, want string }{
		{"", "", ""},
		{"", "x", ""},
		{"a", "", "a"},
		{"a", "x", "a"},
		{"d/a.o", "x", "d/a.o"},
		{"*", "x", "*"},
		{"\x00\xff", "x", "\x00\xff"},
		{long, "x", long},
		{"%", "", ""},
		{"%", "x", "x"},
		{"&", "", ""},
		{"&", "x", "x"},
		{"%.c", "x", "x.c"},
		{"%.c", "x.y", "x.y.c"},
		{"%.c", "", ".c"},
		{"&.c", "x", "x.c"},
		{"&.c", "d/x.y", "d/x.y.c"},
		{"d/%", "x", "d/x"},
		{"d/&", "x", "d/x"},
		{"d/%.c", "x", "d/x.c"},
		{"d/&.c", "", "d/.c"},
		{"lib.a(%.o)", "x", "lib.a(x.o)"},
		{"%%", "x", "xx"},
		{"&&", "x", "xx"},
		{"%&", "x", "xx"},
		{"&%", "x", "xx"},
		{"%%%", "xy", "xyxyxy"},
		{"%&%&", "", ""},
		{"a%b%c", "x", "axbxc"},
		{"a%b&c", "x", "axbxc"},
		{"a&b%c", "x", "axbxc"},
		{"a&b&c", "", "abc"},
		{"%/%.o", "x", "x/x.o"},
		{"%a&", "x", "xax"},
		{"&a%", "", "a"},
		// A stem is not filled again.
		{"%", "%", "%"},
		{"%", "&", "&"},
		{"&", "%", "%"},
		{"&", "&", "&"},
		{"%.o", "%", "%.o"},
		{"%.o", "&%", "&%.o"},
		{"a%b&c", "%", "a%b%c"},
		{"a%b&c", "&", "a&b&c"},
		{"%%", "%", "%%"},
		{"%%", "%%", "%%%%"},
		{"%&", "&%", "&%&%"},
		{"%x%", "a%b&c", "a%b&cxa%b&c"},
		{"%", "\x00\xff", "\x00\xff"},
		{"\xff%\xfe", "\x80", "\xff\x80\xfe"},
		{"\xc3%", "\xa9", "\u00e9"},
		{"\\%", "x", "\\x"},
		{"'%'", "x", "'x'"},
		{"$%", "1", "$1"},
		{"%", "$1", "$1"},
		{"%.o", long, long + ".o"},
		{"%&", long, long + long},
		{"a%b&c", long, "a" + long + "b" + long + "c"},
		{long + "%" + long, "x", long + "x" + long},
	}
	for _, c := range cases {
		isFilled(t, c.pattern, c.stem, c.want)
	}
}

func TestFillOfEveryByte(t *testing.T) {
	for b := range 256 {
		s := one(b)
		isFilled(t, s, "xyz", filled(s, "xyz"))
		isFilled(t, "a"+s+"c", "xyz", filled("a"+s+"c", "xyz"))
		isFilled(t, s+"%"+s, "xyz", filled(s+"%"+s, "xyz"))
		isFilled(t, "&"+s+"%", "xyz", filled("&"+s+"%", "xyz"))
		isFilled(t, "%", s, s)
		isFilled(t, "&", s, s)
		isFilled(t, "a%b&c", s, "a"+s+"b"+s+"c")
		isFilled(t, "a%b&c", "x"+s+"y", "ax"+s+"ybx"+s+"yc")
	}
}

func TestFillOfTwoBytes(t *testing.T) {
	for a := range 256 {
		for b := range 256 {
			pair := one(a) + one(b)
			isFilled(t, pair, "st", filled(pair, "st"))
			isFilled(t, "%.&", pair, pair+"."+pair)
		}
	}
}

func TestFillOfAllShortPatterns(t *testing.T) {
	for _, pattern := range texts("a%&.", 5) {
		for _, s := range texts("x%&", 3) {
			isFilled(t, pattern, s, filled(pattern, s))
		}
	}
}

func TestFillWithoutAPlan(t *testing.T) {
	c := chance(2)
	for range 60000 {
		pattern, s := c.text(40), c.text(40)
		isFilled(t, pattern, s, filled(pattern, s))
	}
}

// Every sign costs a step and its stem, no more.
func TestGreatFills(t *testing.T) {
	const great = 1 << 20
	isFilled(t, strings.Repeat("%&", great), "x", strings.Repeat("xx", great))
	isFilled(t, strings.Repeat("a%&", great), "", strings.Repeat("a", great))
	isFilled(t, strings.Repeat("a", great)+"%", strings.Repeat("&", great), strings.Repeat("a", great)+strings.Repeat("&", great))
	isFilled(t, strings.Repeat("%", 1000), strings.Repeat("s", 1000), strings.Repeat("s", 1000000))
	isFilled(t, strings.Repeat("a", great), "x", strings.Repeat("a", great))
}

// P15.1, of FillAll

// areFilled wants what the patterns of a list are with a stem.
func areFilled(t *testing.T, list []string, s string, want ...string) {
	t.Helper()
	was := slices.Clone(list)
	if got := stem.FillAll(list, s); !sameList(got, want) {
		t.Errorf("FillAll(%s) with %s is %s, not %s", told(was...), told(s), told(got...), told(want...))
	}
	if !sameList(list, was) {
		t.Errorf("FillAll changed its list %s to %s", told(was...), told(list...))
	}
}

// allFilled is each of a list with a stem, in order.
func allFilled(list []string, s string) []string {
	var out []string
	for _, pattern := range list {
		out = append(out, filled(pattern, s))
	}
	return out
}

func TestFillAll(t *testing.T) {
	areFilled(t, nil, "")
	areFilled(t, nil, "x")
	areFilled(t, []string{}, "x")
	areFilled(t, []string{""}, "x", "")
	areFilled(t, []string{"a"}, "x", "a")
	areFilled(t, []string{"%"}, "", "")
	areFilled(t, []string{"%"}, "x", "x")
	areFilled(t, []string{"&.c"}, "x", "x.c")
	areFilled(t, []string{"%", "b"}, "x", "x", "b")
	areFilled(t, []string{"b", "%"}, "x", "b", "x")
	areFilled(t, []string{"%.c", "%.h", "b.h", "&.y", "d/%"}, "x", "x.c", "x.h", "b.h", "x.y", "d/x")
	areFilled(t, []string{"%.h", "%.c"}, "x", "x.h", "x.c")
	areFilled(t, []string{"z", "%", "a", "%"}, "m", "z", "m", "a", "m")
	areFilled(t, []string{"", "%", ""}, "", "", "", "")
	areFilled(t, []string{"a", "a", "a"}, "x", "a", "a", "a")
	areFilled(t, []string{"%", "&", "%%", "&&", "%&", "&%"}, "x", "x", "x", "xx", "xx", "xx", "xx")
	areFilled(t, []string{"%", "&", "a%b&c"}, "%&", "%&", "%&", "a%&b%&c")
	areFilled(t, []string{"%\xff", "\x00&"}, "\xfe", "\xfe\xff", "\x00\xfe")
}

func TestFillAllOfManyPatterns(t *testing.T) {
	for n := range 100 {
		var list, want []string
		for i := range n {
			list = append(list, "d"+strconv.Itoa(i)+"/%")
			want = append(want, "d"+strconv.Itoa(i)+"/st")
		}
		areFilled(t, list, "st", want...)
	}
	areFilled(t, slices.Repeat([]string{"%", "a", "&b"}, 1<<16), "x", slices.Repeat([]string{"x", "a", "xb"}, 1<<16)...)
}

func TestFillAllOfAllShortLists(t *testing.T) {
	patterns := []string{"", "a", "%", "b&"}
	lists := [][]string{nil}
	for from := 0; from < len(lists) && len(lists[from]) < 4; from++ {
		for _, p := range patterns {
			lists = append(lists, append(slices.Clone(lists[from]), p))
		}
	}
	for _, list := range lists {
		for _, s := range []string{"", "x", "%", "a&"} {
			areFilled(t, list, s, allFilled(list, s)...)
		}
	}
}

func TestFillAllWithoutAPlan(t *testing.T) {
	c := chance(3)
	for range 10000 {
		var list []string
		for range c.below(12) {
			list = append(list, c.text(12))
		}
		s := c.text(12)
		areFilled(t, list, s, allFilled(list, s)...)
	}
}
