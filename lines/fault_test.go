package lines_test

import (
	"errors"
	"math"
	"testing"

	"millwright/api"
	"millwright/lines"
)

// P12.1, of Fault

func TestFaultError(t *testing.T) {
	cases := []struct {
		line int
		want string
	}{
		{0, "line 0"},
		{1, "line 1"},
		{2, "line 2"},
		{9, "line 9"},
		{10, "line 10"},
		{99, "line 99"},
		{100, "line 100"},
		{4000, "line 4000"},
		{1234567890, "line 1234567890"},
		{1 << 32, "line 4294967296"},
		{-1, "line -1"},
		{-10, "line -10"},
		{-4001, "line -4001"},
		{math.MaxInt, "line 9223372036854775807"},
		{math.MinInt, "line -9223372036854775808"},
	}
	for _, c := range cases {
		for _, err := range []error{nil, api.ErrQuote, api.ErrLong, errors.New("x")} {
			f := &lines.Fault{Line: c.line, Err: err}
			if got := f.Error(); got != c.want {
				t.Errorf("a fault of line %d (%v) says %q, not %q", c.line, err, got, c.want)
			}
		}
	}
}

func TestFaultUnwrap(t *testing.T) {
	own := errors.New("own")
	within := &lines.Fault{Line: 3, Err: api.ErrName}
	for _, err := range []error{api.ErrQuote, api.ErrLong, api.ErrForm, own, within} {
		for _, line := range []int{0, 1, -1, math.MinInt} {
			f := &lines.Fault{Line: line, Err: err}
			if got := f.Unwrap(); got == nil || got != err {
				t.Errorf("a fault that wraps %v unwraps %v", err, got)
			}
			if !errors.Is(f, err) {
				t.Errorf("a fault isn't the %v that it wraps", err)
			}
		}
	}
	if got := (&lines.Fault{Line: 7}).Unwrap(); got != nil {
		t.Errorf("a fault that wraps nothing unwraps %v", got)
	}
	if errors.Is(&lines.Fault{Line: 7, Err: api.ErrLong}, api.ErrQuote) {
		t.Error("a fault is an error that it doesn't wrap")
	}
	if !errors.Is(&lines.Fault{Line: 7, Err: within}, api.ErrName) {
		t.Error("a fault isn't what a fault within it wraps")
	}
}

// P12.1, of Where

// wrap is an error that wraps another one.
type wrap struct{ err error }

func (w wrap) Error() string { return "wrap" }
func (w wrap) Unwrap() error { return w.err }

// several is an error that wraps several ones.
type several []error

func (s several) Error() string   { return "several" }
func (s several) Unwrap() []error { return s }

// alike is an error of another type that has a line, too.
type alike struct {
	Line int
	Err  error
}

func (a *alike) Error() string { return "line 5" }
func (a *alike) Unwrap() error { return a.Err }

func TestWhere(t *testing.T) {
	fault := func(line int) error { return &lines.Fault{Line: line, Err: api.ErrQuote} }
	var nobody *lines.Fault
	cases := []struct {
		name string
		err  error
		line int
		is   bool
	}{
		{"nil", nil, 0, false},
		{"an error of api", api.ErrQuote, 0, false},
		{"another error", errors.New("line 3"), 0, false},
		{"one that wraps nothing", wrap{}, 0, false},
		{"one that wraps another one", wrap{api.ErrLong}, 0, false},
		{"one that is alike", &alike{Line: 5, Err: api.ErrLong}, 0, false},
		{"several, none of them a fault", several{api.ErrLong, errors.New("x")}, 0, false},
		{"several of none", several{}, 0, false},
		{"a fault", fault(3), 3, true},
		{"a fault of line 0", fault(0), 0, true},
		{"a fault below 0", fault(-4), -4, true},
		{"a great fault", fault(math.MaxInt), math.MaxInt, true},
		{"a small fault", fault(math.MinInt), math.MinInt, true},
		{"a fault that wraps nothing", &lines.Fault{Line: 6}, 6, true},
		{"a fault within a fault", &lines.Fault{Line: 2, Err: fault(9)}, 2, true},
		{"a fault of line 0 around one", &lines.Fault{Line: 0, Err: fault(9)}, 0, true},
		{"one that wraps a fault", wrap{fault(8)}, 8, true},
		{"one that wraps one that wraps a fault", wrap{wrap{wrap{fault(8)}}}, 8, true},
		{"one that wraps a fault within a fault", wrap{&lines.Fault{Line: 4, Err: fault(8)}}, 4, true},
		{"a fault around one that wraps a fault", &lines.Fault{Line: 4, Err: wrap{fault(8)}}, 4, true},
		{"one that is alike around a fault", &alike{Line: 5, Err: fault(7)}, 7, true},
		{"several, one of them a fault", several{api.ErrLong, fault(11), nil}, 11, true},
		{"several faults", several{api.ErrLong, wrap{fault(12)}, fault(11)}, 12, true},
		{"errors that are joined", errors.Join(api.ErrLong, nil, fault(13)), 13, true},
		{"a pointer to no fault", nobody, 0, false},
		{"one that wraps a pointer to no fault", wrap{nobody}, 0, false},
	}
	for _, c := range cases {
		for range 2 {
			if line, is := lines.Where(c.err); line != c.line || is != c.is {
				t.Errorf("Where of %s is %d (%t), not %d (%t)", c.name, line, is, c.line, c.is)
			}
		}
	}
}

func TestWhereOfAFaultOfItself(t *testing.T) {
	f := &lines.Fault{Line: 4}
	f.Err = f
	if line, is := lines.Where(wrap{f}); line != 4 || !is {
		t.Errorf("Where of a fault that wraps itself is %d (%t)", line, is)
	}
}

func TestWhereOfADeepFault(t *testing.T) {
	var err error = &lines.Fault{Line: 4, Err: api.ErrLong}
	for range 1 << 16 {
		err = wrap{err}
	}
	if line, is := lines.Where(err); line != 4 || !is {
		t.Errorf("Where of a fault deep within is %d (%t)", line, is)
	}
}

// Rules for every call

func TestWhereChangesNothing(t *testing.T) {
	f := &lines.Fault{Line: 4, Err: api.ErrLong}
	lines.Where(f)
	lines.Where(wrap{f})
	if f.Line != 4 || f.Err != api.ErrLong {
		t.Errorf("Where changed its fault to %d, %v", f.Line, f.Err)
	}
}

func TestFaultsOfSplitAreTheCallers(t *testing.T) {
	for _, text := range []string{"a\n'b", pad(api.MaxText + 1), pad(api.MaxLine + 1)} {
		_, first := lines.Split(text)
		var f *lines.Fault
		if !errors.As(first, &f) {
			t.Fatalf("Split(%s) is %v", shown(text), first)
		}
		line, wrapped := f.Line, f.Err
		f.Line, f.Err = 77, api.ErrName
		_, second := lines.Split(text)
		if got, is := lines.Where(second); got != line || !is || !errors.Is(second, wrapped) {
			t.Errorf("behind a fault written over, Split(%s) is %v", shown(text), second)
		}
	}
}
