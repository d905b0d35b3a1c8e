package lines_test

import (
	"errors"
	"strings"
	"testing"

	"millwright/api"
	"millwright/lines"
)

// reader reads a text once, byte by byte, and keeps in which of its parts it stands: a second working-out of the chapter's words.
type reader struct {
	all    []lines.Line
	text   []byte
	number int // of the line that is read
	row    int // of the physical line
	part   part
	fault  lines.Fault
}

// part is where a reader stands.
type part int

const (
	ahead part = iota
	inRecipe
	plain
	quoted
	remark
)

// read is a text's lines, and what is wrong.
func read(text string) ([]lines.Line, lines.Fault) {
	if len(text) > api.MaxText {
		return nil, lines.Fault{Err: api.ErrLong}
	}
	r := &reader{row: 1}
	for i := range len(text) {
		if r.fault.Err != nil {
			return nil, r.fault
		}
		goesOn := strings.HasPrefix(text[i:], "\\\n") && i+2 < len(text)
		r.step(text[i], goesOn)
	}
	if r.part != ahead && r.fault.Err == nil {
		r.close()
	}
	if r.fault.Err != nil {
		return nil, r.fault
	}
	return r.all, lines.Fault{}
}

func (r *reader) step(b byte, goesOn bool) {
	if r.part == ahead {
		r.number, r.part = r.row, plain
		if b == ' ' || b == '\t' {
			r.part = inRecipe
			return
		}
	}
	if b == '\n' {
		r.feed()
		return
	}
	if r.part == plain && b == '#' {
		r.part = remark
	} else if r.part == plain && goesOn {
		// The line feed that follows sees that the line goes on by this.
		r.text = append(r.text, '\n')
	} else if r.part != remark {
		r.text = append(r.text, b)
	}
	if b == '\'' {
		switch r.part {
		case plain:
			r.part = quoted
		case quoted:
			r.part = plain
		}
	}
}

func (r *reader) feed() {
	last := len(r.text) - 1
	if last >= 0 && r.text[last] == '\n' {
		r.text[last] = ' '
	} else {
		r.close()
	}
	r.row++
}

func (r *reader) close() {
	line := lines.Line{Text: string(r.text), Number: r.number, Recipe: r.part == inRecipe}
	if r.part == quoted {
		r.fault = lines.Fault{Line: r.row, Err: api.ErrQuote}
		return
	}
	for !line.Recipe && line.Text != "" && strings.Contains(" \t", line.Text[:1]) {
		line.Text = line.Text[1:]
	}
	for !line.Recipe && line.Text != "" && strings.Contains(" \t", line.Text[len(line.Text)-1:]) {
		line.Text = line.Text[:len(line.Text)-1]
	}
	if len(line.Text) > api.MaxLine {
		r.fault = lines.Fault{Line: r.number, Err: api.ErrLong}
		return
	}
	r.all = append(r.all, line)
	r.text, r.part = nil, ahead
}

func isRead(t *testing.T, text string) {
	t.Helper()
	want, fault := read(text)
	got, err := lines.Split(text)
	if fault.Err == nil {
		if err != nil || !same(got, want) {
			t.Fatalf("Split(%s) is %s (%v), not %s", shown(text), list(got), err, list(want))
		}
		return
	}
	if at, is := lines.Where(err); !is || at != fault.Line || !errors.Is(err, fault.Err) || got != nil {
		t.Fatalf("Split(%s) is %s (%v), not a fault of line %d: %v", shown(text), list(got), err, fault.Line, fault.Err)
	}
}

// P12.1, of Split

func TestSplitOfAllShortTexts(t *testing.T) {
	for _, alphabet := range []string{"a\n", "a'\n", "a\\\n", "#\\\n", "'#\n", " \\\n", "\t'\n"} {
		most := 9
		if len(alphabet) == 2 {
			most = 12
		}
		for _, s := range texts(alphabet, most) {
			isRead(t, s)
		}
	}
	for _, s := range texts("a '#\\\n", 6) {
		isRead(t, s)
	}
}

func TestSplitOfTextsWithoutAPlan(t *testing.T) {
	c := chance(3)
	for range 20000 {
		isRead(t, c.text(80))
	}
	for range 2000 {
		isRead(t, c.text(1000))
	}
	for range 300 {
		isRead(t, c.text(api.MaxText+100))
	}
}

// rows is a text of some physical lines of the shapes that mkfiles have.
func (c *chance) rows() string {
	shapes := []string{"a: b", "\tcp a b", " x # y", "", "\t", "# c", "a=b 'c d' # e", "a: \\", "\\", "b\\\\", "  z\\", "# c\\", "''", "'it''s'", "\t'", "'# '\\", "a \t"}
	var out strings.Builder
	for range c.below(30) {
		out.WriteString(shapes[c.below(len(shapes))])
		if c.below(20) > 0 {
			out.WriteByte('\n')
		}
	}
	return out.String()
}

func TestSplitOfTextsAsMkfilesHaveThem(t *testing.T) {
	c := chance(4)
	for range 20000 {
		isRead(t, c.rows())
	}
}

func TestSplitOfEachByteEverywhere(t *testing.T) {
	for b := range 256 {
		one := string([]byte{byte(b)})
		for _, s := range []string{one, one + one, "a" + one, one + "a", one + "\n", "\n" + one, "\t" + one, "'" + one + "'", "'" + one, "#" + one + "\na", "\\" + one + "a", "a\\\n" + one + "b", one + "\\\n" + one + "\n" + one, "a " + one + " \nb"} {
			isRead(t, s)
		}
	}
}

func TestSplitNearTheLimits(t *testing.T) {
	for more := -3; more <= 3; more++ {
		row := pad(api.MaxLine + more)
		for _, s := range []string{row, "\t" + row, " " + row, row + " ", row + "#", row + "\\\n", row + "\\\nb", "\\\n" + row, "'" + row + "'", row + "'", "a\n" + row + "\\\n\n", row + "\\\n \n'", "\t " + row, "\t" + row + "'"} {
			isRead(t, s)
			isRead(t, s+"\n")
			isRead(t, "x\n\n"+s+"\ny")
		}
		isRead(t, pad(api.MaxText+more))
		isRead(t, "#"+pad(api.MaxText+more))
		isRead(t, strings.Repeat("\n", api.MaxText+more))
		isRead(t, strings.Repeat("\\\n", api.MaxText/2+more))
		isRead(t, strings.Repeat("'", api.MaxText+more))
	}
}

// P12.2

// isRising tells by a test that the numbers of a text's lines rise, from 1 on, and lie within its physical lines.
func isRising(t *testing.T, text string) {
	t.Helper()
	all, err := lines.Split(text)
	if err != nil {
		return
	}
	count := lines.Count(text)
	if len(all) > count || (len(all) == 0) != (count == 0) {
		t.Fatalf("Split(%s) has %d lines of %d physical ones", shown(text), len(all), count)
	}
	before := 0
	for _, l := range all {
		if l.Number <= before || l.Number > count || before == 0 && l.Number != 1 {
			t.Fatalf("Split(%s) has line %d behind %d, of %d", shown(text), l.Number, before, count)
		}
		before = l.Number
	}
	if !strings.ContainsAny(text, "'\\#") && len(all) != count {
		t.Fatalf("Split(%s) has %d lines, not %d", shown(text), len(all), count)
	}
}

// isWhole tells by a test that all physical lines of a text without quotes and sharps are within its lines: each line ends ahead of the next one's number, with as many backslashes ahead as it has physical lines less one.
func isWhole(t *testing.T, text string) {
	t.Helper()
	all, err := lines.Split(text)
	if err != nil {
		return
	}
	rows := strings.Split(text, "\n")[:lines.Count(text)]
	for i, l := range all {
		next := len(rows) + 1
		if i+1 < len(all) {
			next = all[i+1].Number
		}
		of := rows[l.Number-1 : next-1]
		for k, row := range of {
			goesOn := !l.Recipe && strings.HasSuffix(row, "\\") && l.Number+k < len(rows)
			if goesOn != (k+1 < len(of)) {
				t.Fatalf("Split(%s) has line %d of %d physical ones", shown(text), l.Number, len(of))
			}
		}
	}
}

func TestLinesRise(t *testing.T) {
	for _, s := range texts("a'\\\n", 7) {
		isRising(t, s)
	}
	for _, s := range texts(" #\\\n", 7) {
		isRising(t, s)
	}
	c := chance(5)
	for range 5000 {
		isRising(t, c.text(100))
		isRising(t, c.text(api.MaxText))
		isRising(t, c.rows())
	}
}

func TestLinesAreWhole(t *testing.T) {
	for _, s := range texts("a\\\n", 9) {
		isWhole(t, s)
	}
	for _, s := range texts(" \\\n\t", 7) {
		isWhole(t, s)
	}
	c := chance(6)
	for range 5000 {
		s := strings.NewReplacer("'", "q", "#", "s").Replace(c.text(300))
		isWhole(t, s)
		isRising(t, s)
	}
}

func TestLinesOfTextsWithoutSignsAreThePhysicalOnes(t *testing.T) {
	c := chance(7)
	for range 5000 {
		s := strings.NewReplacer("'", "q", "#", "s", "\\", "b").Replace(c.text(300))
		isRising(t, s)
		all, err := lines.Split(s)
		if err != nil {
			t.Fatalf("Split(%q) is %v", s, err)
		}
		for i, l := range all {
			row := strings.Split(s, "\n")[i]
			if l.Number != i+1 || l.Recipe != (row != "" && strings.Contains(" \t", row[:1])) {
				t.Fatalf("Split(%q) has %s as line %d", s, list(all[i:i+1]), i+1)
			}
		}
	}
}

// Rules for every call

func TestSplitsAnswerIsTheCallers(t *testing.T) {
	const text = "a: b \\\n c # d\n\tx\n\ny=1"
	first, _ := lines.Split(text)
	second, _ := lines.Split(text)
	for i := range first {
		first[i] = lines.Line{Text: "over", Number: 99, Recipe: true}
	}
	_ = append(first[:1], lines.Line{Text: "over"})
	third, _ := lines.Split(text)
	want := []lines.Line{logical(1, "a: b   c"), recipe(3, "x"), logical(4, ""), logical(5, "y=1")}
	if !same(second, want) || !same(third, want) {
		t.Errorf("behind an answer written over, Split(%q) is %s, then %s", text, list(second), list(third))
	}
}

func TestSameAnswersEachTime(t *testing.T) {
	c := chance(8)
	for range 2000 {
		s := c.text(200)
		first, err := lines.Split(s)
		again, errAgain := lines.Split(s)
		line, is := lines.Where(err)
		lineAgain, isAgain := lines.Where(errAgain)
		if !same(first, again) || line != lineAgain || is != isAgain || (err == nil) != (errAgain == nil) {
			t.Fatalf("Split(%q) is %s, %v, then %s, %v", s, list(first), err, list(again), errAgain)
		}
		if lines.Count(s) != lines.Count(s) || lines.Comment(s) != lines.Comment(s) {
			t.Fatalf("Count or Comment of %q isn't the same each time", s)
		}
	}
}
