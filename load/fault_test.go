package load_test

import (
	"errors"
	"math"
	"strconv"
	"strings"
	"testing"

	"millwright/api"
	"millwright/env"
	"millwright/lines"
	"millwright/load"
	"millwright/stmt"
	"millwright/tree"
)

// P20.1, of Fault

func TestFaultError(t *testing.T) {
	for file, begins := range map[string]string{"m": "m:", "": ":", "d/m.mk": "d/m.mk:", "|gen it": "|gen it:", "a:b": "a:b:", ":": "::", "a\nb\xff": "a\nb\xff:", "7": "7:"} {
		for line, figures := range map[int]string{
			0: "0", 1: "1", 2: "2", 9: "9", 10: "10", 99: "99", 100: "100", 4000: "4000", 1 << 32: "4294967296", -1: "-1", -10: "-10",
			math.MaxInt: "9223372036854775807", math.MinInt: "-9223372036854775808",
		} {
			for _, err := range []error{nil, api.ErrQuote, errors.New("x"), &lines.Fault{Line: 7, Err: api.ErrLong}} {
				f := &load.Fault{File: file, Line: line, Err: err}
				if got := f.Error(); got != begins+figures {
					t.Errorf("a fault of %q, line %d (%v) says %q", file, line, err, got)
				}
			}
		}
	}
}

func TestFaultUnwrap(t *testing.T) {
	own := errors.New("own")
	within := &load.Fault{File: "n", Line: 3, Err: api.ErrName}
	for _, err := range []error{api.ErrNone, api.ErrFull, own, within, &lines.Fault{Line: 2, Err: api.ErrForm}} {
		for _, line := range []int{0, 1, -1, math.MinInt} {
			f := &load.Fault{File: "m", Line: line, Err: err}
			if got := f.Unwrap(); got == nil || got != err {
				t.Errorf("a fault that wraps %v unwraps %v", err, got)
			}
			if !errors.Is(f, err) {
				t.Errorf("a fault isn't the %v that it wraps", err)
			}
		}
	}
	if got := (&load.Fault{File: "m", Line: 7}).Unwrap(); got != nil {
		t.Errorf("a fault that wraps nothing unwraps %v", got)
	}
	if errors.Is(&load.Fault{File: "m", Line: 7, Err: api.ErrNone}, api.ErrFull) {
		t.Error("a fault is an error that it doesn't wrap")
	}
	if !errors.Is(&load.Fault{File: "m", Line: 7, Err: within}, api.ErrName) {
		t.Error("a fault isn't what a fault within it wraps")
	}
}

// P20.1, of Where

// wrap is an error that wraps another one.
type wrap struct{ err error }

func (w wrap) Error() string { return "wrap" }
func (w wrap) Unwrap() error { return w.err }

// several is an error that wraps several ones.
type several []error

func (s several) Error() string   { return "several" }
func (s several) Unwrap() []error { return s }

// alike is an error of another type that has a file and a line, too.
type alike struct {
	File string
	Line int
	Err  error
}

func (a *alike) Error() string { return "m:5" }
func (a *alike) Unwrap() error { return a.Err }

// rude is an error that can't be asked what it wraps.
type rude struct{}

func (rude) Error() string { return "rude" }
func (rude) Unwrap() error { panic("rude") }

func TestWhere(t *testing.T) {
	fault := func(file string, line int) error { return &load.Fault{File: file, Line: line, Err: api.ErrNone} }
	var nobody *load.Fault
	var noLine *lines.Fault
	for _, c := range []struct {
		name string
		err  error
		file string
		line int
		is   bool
	}{
		{"nil", nil, "", 0, false},
		{"an error of api", api.ErrNone, "", 0, false},
		{"another error", errors.New("m:3"), "", 0, false},
		{"a fault of layer 12", &lines.Fault{Line: 3, Err: api.ErrForm}, "", 0, false},
		{"one that wraps nothing", wrap{}, "", 0, false},
		{"one that wraps another one", wrap{api.ErrLong}, "", 0, false},
		{"one that is alike", &alike{"m", 5, api.ErrLong}, "", 0, false},
		{"several, none of them a fault", several{api.ErrLong, errors.New("x")}, "", 0, false},
		{"several of none", several{}, "", 0, false},
		{"a fault", fault("m", 3), "m", 3, true},
		{"a fault of line 0", fault("m", 0), "m", 0, true},
		{"a fault of no file", fault("", 3), "", 3, true},
		{"a fault of neither", fault("", 0), "", 0, true},
		{"a fault below 0", fault("|gen", -4), "|gen", -4, true},
		{"a great fault", fault("a b", math.MaxInt), "a b", math.MaxInt, true},
		{"a fault that wraps nothing", &load.Fault{File: "m", Line: 6}, "m", 6, true},
		{"a fault around layer 12's", &load.Fault{File: "m", Line: 6, Err: &lines.Fault{Line: 7}}, "m", 6, true},
		{"layer 12's around a fault", &lines.Fault{Line: 7, Err: fault("m", 3)}, "m", 3, true},
		{"a fault within a fault", &load.Fault{File: "m", Line: 2, Err: fault("n", 9)}, "m", 2, true},
		{"a fault of neither around one", &load.Fault{Err: fault("n", 9)}, "", 0, true},
		{"one that wraps a fault", wrap{fault("m", 8)}, "m", 8, true},
		{"one that wraps one that wraps a fault", wrap{wrap{wrap{fault("m", 8)}}}, "m", 8, true},
		{"one that wraps a fault within a fault", wrap{&load.Fault{File: "m", Line: 4, Err: fault("n", 8)}}, "m", 4, true},
		{"a fault around one that wraps a fault", &load.Fault{File: "m", Line: 4, Err: wrap{fault("n", 8)}}, "m", 4, true},
		{"one that is alike around a fault", &alike{"n", 5, fault("m", 7)}, "m", 7, true},
		{"several, one of them a fault", several{api.ErrLong, fault("m", 11), nil}, "m", 11, true},
		{"several faults", several{api.ErrLong, wrap{fault("m", 12)}, fault("n", 11)}, "m", 12, true},
		{"errors that are joined", errors.Join(api.ErrLong, nil, fault("m", 13)), "m", 13, true},
		{"a pointer to no fault", nobody, "", 0, false},
		{"one that wraps a pointer to no fault", wrap{nobody}, "", 0, false},
		{"a pointer to no fault of layer 12", noLine, "", 0, false},
		{"one that can't be asked", rude{}, "", 0, false},
		{"one that wraps one that can't be asked", wrap{rude{}}, "", 0, false},
		{"a fault around one that can't be asked", &load.Fault{File: "m", Line: 4, Err: rude{}}, "m", 4, true},
	} {
		for range 2 {
			if file, line, is := load.Where(c.err); file != c.file || line != c.line || is != c.is {
				t.Errorf("Where of %s is %q, %d (%t)", c.name, file, line, is)
			}
		}
	}
}

func TestWhereOfAFaultOfItself(t *testing.T) {
	f := &load.Fault{File: "m", Line: 4}
	f.Err = f
	if file, line, is := load.Where(wrap{f}); file != "m" || line != 4 || !is {
		t.Errorf("Where of a fault that wraps itself is %q, %d (%t)", file, line, is)
	}
}

func TestWhereOfADeepFault(t *testing.T) {
	var err error = &load.Fault{File: "m", Line: 4, Err: api.ErrNone}
	for range 1 << 16 {
		err = wrap{err}
	}
	if file, line, is := load.Where(err); file != "m" || line != 4 || !is {
		t.Errorf("Where of a fault deep within is %q, %d (%t)", file, line, is)
	}
}

func TestWhereChangesNothing(t *testing.T) {
	f := &load.Fault{File: "m", Line: 4, Err: api.ErrNone}
	load.Where(f)
	load.Where(wrap{f})
	if *f != (load.Fault{File: "m", Line: 4, Err: api.ErrNone}) {
		t.Errorf("Where changed its fault to %q, %d, %v", f.File, f.Line, f.Err)
	}
}

// P20.1, of faults

// faulty is texts of one fault each, by their line and what it is.
var faulty = []struct {
	text string
	line int
	err  error
}{
	{"word\n", 1, api.ErrForm},
	{"\n\n\tmake\n", 3, api.ErrForm},
	{"a: b\n\n<\n", 3, api.ErrForm},
	{"x y = a\n", 1, api.ErrName},
	{"\nx = $\n", 2, api.ErrName},
	{"a: b\n<$\n", 2, api.ErrName},
	{"a:V\n", 1, api.ErrAttr},
	{"# c\na:x: b\n", 2, api.ErrAttr},
	{"a: b\n\n\n'c: d\n", 4, api.ErrQuote},
	{"x = a \\\n'b\n", 2, api.ErrQuote},
	{"x = ${y\n", 1, api.ErrForm},
	{"<`a\n", 1, api.ErrForm},
	{"\na:P" + strings.Repeat("p", api.MaxWord+1) + ":\n", 2, api.ErrLong},
	{"\n" + strings.Repeat("v", api.MaxLine+1) + "\n", 2, api.ErrLong},
}

// Layer 19's errors are told with their mkfile and their line.
func TestFaultsOfStatements(t *testing.T) {
	for _, c := range faulty {
		world{}.fails(t, c.text, "m", c.line, c.err)
		w := files("inc", c.text, "over", "\nx = a\n<inc\n").tells("gen", c.text)
		w.fails(t, "a: b\n<inc\n", "inc", c.line, c.err)
		w.fails(t, "<over\n", "inc", c.line, c.err)
		w.fails(t, "a: b\n<|gen\nword = c\n", "|gen", c.line, c.err)
		holds(t, "Load of inc", w.load(t, "inc"), answer{file: "inc", line: c.line, err: c.err, fault: true})
		// They come ahead of all statements of that mkfile, also of those ahead of them.
		ahead := "x = a\n<none\n`{none}: $none\n"
		w.fails(t, ahead+c.text, "m", c.line+3, c.err)
		w.leaves(t, ahead+c.text)
		// But behind those of another mkfile that are done ahead of its being read.
		w.leaves(t, "x = a\n<inc\nx = b\n", variable("x", "a"))
		w.fails(t, "<none\n<inc\n", "m", 1, api.ErrNone)
	}
}

// Each error is a *Fault itself, of the mkfile and the line; what it wraps is what is wrong.
func TestErrorsAreFaults(t *testing.T) {
	check := func(what string, err error, file string, line int, is error) {
		t.Helper()
		f, fault := err.(*load.Fault)
		if !fault || f == nil {
			t.Fatalf("%s: %v is no *Fault", what, err)
		}
		if f.File != file || f.Line != line || f.Error() != file+":"+strconv.Itoa(line) || f.Err == nil || f.Unwrap() != f.Err {
			t.Errorf("%s: %q, %d, %q, %v", what, f.File, f.Line, f.Error(), f.Err)
		}
		for _, k := range kinds() {
			if errors.Is(err, k) != (k == is) {
				t.Errorf("%s: that it is %q is %t", what, k, errors.Is(err, k))
			}
		}
		// No fault stands within another one: it is told once, where it is.
		if _, _, more := load.Where(f.Err); more {
			t.Errorf("%s: a fault within a fault", what)
		}
	}
	w := files("inc", "\n\n`{none}: a\n", "loop", "\n<loop\n", "over", "<inc\n").has(full(0)...)
	for _, c := range append(faulty, []struct {
		text string
		line int
		err  error
	}{
		{"\n<none\n", 2, api.ErrNone},
		{"a: b\n\n<|none\n", 3, api.ErrNone},
		{"a: `{none}\n", 1, api.ErrNone},
		{"\nx = a\n", 2, api.ErrFull},
		{"v100 = a\nv100 = `{none}\n", 2, api.ErrNone},
		{strings.Repeat("a: b\n", api.MaxRules+1), api.MaxRules + 1, api.ErrFull},
		{"\n\n<$none `{none}\n", 3, api.ErrNone},
		{strings.Repeat("\n", api.MaxText+1), 0, api.ErrLong},
	}...) {
		rules, err := load.Text("m", c.text, w.tree(t), w.env(t), w.out)
		check("Text of "+c.text, err, "m", c.line, c.err)
		if len(rules) > 0 {
			t.Errorf("beside an error there is %s", shownRules(rules))
		}
	}
	for file, c := range map[string]struct {
		file string
		line int
		err  error
	}{"inc": {"inc", 3, api.ErrNone}, "over": {"inc", 3, api.ErrNone}, "loop": {"loop", 2, api.ErrDepth}, "none": {"none", 0, api.ErrNone}, "": {"", 0, api.ErrNone}} {
		rules, err := load.Load(w.tree(t), file, w.env(t), w.out)
		check("Load of "+file, err, c.file, c.line, c.err)
		if len(rules) > 0 {
			t.Errorf("beside an error there is %s", shownRules(rules))
		}
	}
}

// What is wrapped of layer 19's error is that error.
func TestFaultsWrapWhatIsTold(t *testing.T) {
	for _, c := range faulty {
		_, of := stmt.Of(c.text)
		_, err := load.Text("m", c.text, tree.New(), env.New(), nil)
		line, is := lines.Where(err)
		want, _ := lines.Where(of)
		if !is || line != want || !errors.Is(err, errors.Unwrap(of)) {
			t.Errorf("Text of %q has %v, line %d (%t)", c.text, err, line, is)
		}
	}
}

// The fault that is met first is told, wherever others are.
func TestTheFirstFaultIsTold(t *testing.T) {
	w := files("wrong", "\nword\n", "late", "a: b\n\n<|none\n", "right", "c: d\n")
	w.fails(t, "<right\n<late wrong\n<none\n", "late", 3, api.ErrNone)
	w.fails(t, "<right wrong late\n<none\n", "wrong", 2, api.ErrForm)
	w.fails(t, "<right none wrong late\n", "m", 1, api.ErrNone)
	w.fails(t, "a: `{none}\n<wrong\n", "m", 1, api.ErrNone)
	w.fails(t, "<wrong\na: `{none}\n", "wrong", 2, api.ErrForm)
	w.fails(t, "<wrong\na: b\nword\n", "m", 3, api.ErrForm)
}
