package stem_test

import (
	"strings"
	"testing"

	"millwright/stem"
)

// P15.2

// isBack wants that a pattern of a single %, filled, fits with the stem that it was filled with.
func isBack(t *testing.T, ahead, s, behind string) {
	t.Helper()
	pattern := ahead + "%" + behind
	text := stem.Fill(pattern, s)
	if text != ahead+s+behind {
		t.Errorf("Fill(%s) is %s", told(pattern, s), told(text))
	}
	if got, is := stem.Match(pattern, text); !is || got != s {
		t.Errorf("%s, filled with %s, fits %v, with %s", told(pattern), told(s), is, told(got))
	}
}

// isWhole wants that what fits is the pattern, with its stem in the place of its wild sign.
func isWhole(t *testing.T, pattern, text string) bool {
	t.Helper()
	s, is := stem.Match(pattern, text)
	if !is {
		return false
	}
	whole := pattern
	if at := stem.Wild(pattern); at >= 0 {
		whole = pattern[:at] + s + pattern[at+1:]
	} else if s != "" {
		t.Errorf("%s has no wild sign, but the stem %s", told(pattern), told(s))
	}
	if whole != text {
		t.Errorf("%s fits %s with %s, and is %s", told(text), told(pattern), told(s), told(whole))
	}
	return true
}

func TestFilledPatternsFit(t *testing.T) {
	for s := range stems() {
		for _, ahead := range sides() {
			for _, behind := range sides() {
				isBack(t, ahead, s, behind)
			}
		}
	}
}

func TestFilledPatternsFitOfEveryByte(t *testing.T) {
	for b := range 256 {
		s := one(b)
		isBack(t, "", s, "")
		isBack(t, "a", s, "c")
		isBack(t, "a", "x"+s+"y", "c")
		if !isWild(byte(b)) {
			isBack(t, s, "", "")
			isBack(t, "", "", s)
			isBack(t, s, s, s)
			isBack(t, "a"+s, s+s, s+"c")
		}
	}
}

func TestFilledPatternsFitOfAllShortTexts(t *testing.T) {
	for _, ahead := range texts("a./", 3) {
		for _, behind := range texts("a./", 3) {
			for _, s := range texts("a%&.", 3) {
				isBack(t, ahead, s, behind)
			}
		}
	}
}

func TestFilledPatternsFitWithoutAPlan(t *testing.T) {
	c := chance(4)
	bare := strings.NewReplacer("%", "", "&", "")
	for range 60000 {
		isBack(t, bare.Replace(c.text(20)), c.text(30), bare.Replace(c.text(20)))
	}
}

// A pattern with one & and no % is as one with a %, for narrow stems.
func TestFilledThinPatternsFit(t *testing.T) {
	for s, narrow := range stems() {
		for _, ahead := range sides() {
			for _, behind := range sides() {
				pattern := ahead + "&" + behind
				got, is := stem.Match(pattern, stem.Fill(pattern, s))
				if is != narrow || narrow && got != s || !narrow && got != "" {
					t.Errorf("%s, filled with %s, fits %v, with %s", told(pattern), told(s), is, told(got))
				}
			}
		}
	}
}

func TestWhatFitsIsThePattern(t *testing.T) {
	fit := 0
	all := texts("a%&.", 4)
	for _, pattern := range all {
		for _, text := range all {
			if isWhole(t, pattern, text) {
				fit++
			}
		}
	}
	if fit < 2*len(all) {
		t.Errorf("just %d texts fit", fit)
	}
}

func TestWhatFitsIsThePatternWithoutAPlan(t *testing.T) {
	c := chance(5)
	fit := 0
	for range 60000 {
		pattern, s := c.text(12), c.text(16)
		isWhole(t, pattern, s)
		at := wildOf(pattern)
		if at < 0 {
			continue
		}
		if isWhole(t, pattern, pattern[:at]+s+pattern[at+1:]) {
			fit++
		}
		isWhole(t, pattern, stem.Fill(pattern, s))
		isWhole(t, pattern, s+pattern[at+1:])
	}
	if fit < 10000 {
		t.Errorf("just %d texts fit", fit)
	}
}

// Narrow is what tells a % from an &.
func TestSignsDifferByNarrow(t *testing.T) {
	c := chance(6)
	for range 60000 {
		ahead, behind, s := c.text(4), c.text(4), c.text(8)
		if wildOf(ahead) >= 0 {
			continue
		}
		wide, fitsWide := stem.Match(ahead+"%"+behind, ahead+s+behind)
		thin, fitsThin := stem.Match(ahead+"&"+behind, ahead+s+behind)
		if !fitsWide || wide != s || fitsThin != stem.Narrow(s) || fitsThin && thin != s {
			t.Errorf("%s fits a %% with %s, %v, an & with %s, %v", told(ahead, s, behind), told(wide), fitsWide, told(thin), fitsThin)
		}
	}
}
