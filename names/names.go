// Package names is layer 1: see shared/doc/01-names.md.
package names

import (
	"slices"
	"strings"

	"millwright/api"
)

// Right tells whether it is a name.
func Right(s string) bool {
	if len(s) < 1 || len(s) > api.MaxName {
		return false
	}
	for i := range len(s) {
		if s[i] < 33 || s[i] > 126 {
			return false
		}
	}
	return true
}

// Member is a member's name in its parts.
func Member(s string) (lib, member string, is bool) {
	if !Right(s) || strings.Count(s, "(") != 1 {
		return "", "", false
	}
	last := len(s) - 1
	// The only closing bracket stands last if the first one does.
	if strings.IndexByte(s, ')') != last {
		return "", "", false
	}
	open := strings.IndexByte(s, '(')
	if open == 0 || open+1 == last {
		return "", "", false
	}
	return s[:open], s[open+1 : last], true
}

// Join is a member's name.
func Join(lib, member string) string { return lib + "(" + member + ")" }

// Dir is a text's directory.
func Dir(s string) string { return s[:baseStart(s)] }

// Base is a text's base.
func Base(s string) string { return s[baseStart(s):] }

// baseStart is where a text's base begins: 0 if there is no stroke.
func baseStart(s string) int { return strings.LastIndexByte(s, '/') + 1 }

// Suffix is a text's suffix.
func Suffix(s string) string {
	base := Base(s)
	point := strings.LastIndexByte(base, '.')
	if point < 1 {
		return ""
	}
	return base[point:]
}

// Sorted is texts rising, each once.
func Sorted(list []string) []string {
	out := Union(list, nil)
	slices.Sort(out)
	return out
}

// Has tells whether a text is in a list.
func Has(list []string, s string) bool { return slices.Contains(list, s) }

// Union is two lists in one, each text once.
func Union(a, b []string) []string {
	var out []string
	seen := make(map[string]bool)
	for _, list := range [][]string{a, b} {
		for _, s := range list {
			if !seen[s] {
				seen[s] = true
				out = append(out, s)
			}
		}
	}
	return out
}

// Without is a list without the texts of another one.
func Without(a, b []string) []string {
	drop := make(map[string]bool)
	for _, s := range b {
		drop[s] = true
	}
	var out []string
	for _, s := range a {
		if !drop[s] {
			out = append(out, s)
		}
	}
	return out
}
