// Package name is layer 1: names of elements and attributes. See shared/doc/01-name.md.
package name

import (
	"strings"

	"instar/api"
)

// What Kind answers.
const (
	noName     = 0
	customName = 1
	knownName  = 2
	otherName  = 3
)

// Right tells whether s is a name.
func Right(s string) bool {
	if len(s) < 1 || len(s) > api.MaxName || !mayBegin(s[0]) {
		return false
	}
	for i := 1; i < len(s); i++ {
		if !isSign(s[i]) {
			return false
		}
	}
	return true
}

// Small answers the small form of any text. It goes by bytes: letters that
// aren't A to Z, and bytes that are no letter's, have to stay as they are.
func Small(s string) string {
	small := []byte(s)
	for i, c := range small {
		if isCapital(c) {
			small[i] = c - 'A' + 'a'
		}
	}
	return string(small)
}

// Custom tells whether s is a custom name.
func Custom(s string) bool {
	return Right(s) && Small(s) == s && isSmallLetter(s[0]) && strings.Contains(s, "-") && !isReserved(s)
}

// Known tells whether s is one of the known names.
func Known(s string) bool {
	switch s {
	case "a", "b", "button", "div", "fieldset", "form", "i", "input", "label", "legend",
		"li", "option", "output", "p", "select", "span", "template", "textarea", "ul":
		return true
	}
	return false
}

// Kind tells which kind of name s is: none, a custom, a known, or another one.
func Kind(s string) int {
	switch {
	case !Right(s):
		return noName
	case Custom(s):
		return customName
	case Known(s):
		return knownName
	}
	return otherName
}

// Fit answers the small form of a name.
func Fit(s string) (string, api.Errno) {
	if !Right(s) {
		return "", api.ErrName
	}
	return Small(s), api.OK
}

func isSmallLetter(c byte) bool { return 'a' <= c && c <= 'z' }

func isCapital(c byte) bool { return 'A' <= c && c <= 'Z' }

func isLetter(c byte) bool { return isSmallLetter(c) || isCapital(c) }

func isDigit(c byte) bool { return '0' <= c && c <= '9' }

func isSign(c byte) bool {
	return isLetter(c) || isDigit(c) || c == '-' || c == '_' || c == '.'
}

func mayBegin(c byte) bool { return isLetter(c) || c == '_' }

// isReserved tells the names that look like custom ones, but mean something else on a page.
func isReserved(s string) bool {
	switch s {
	case "annotation-xml", "color-profile", "font-face", "font-face-src", "font-face-uri",
		"font-face-format", "font-face-name", "missing-glyph":
		return true
	}
	return false
}
