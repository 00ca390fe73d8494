package name_test

import (
	"strings"
	"testing"

	"instar/api"
	"instar/name"
)

const (
	smallLetters = "abcdefghijklmnopqrstuvwxyz"
	capitals     = "ABCDEFGHIJKLMNOPQRSTUVWXYZ"
	digits       = "0123456789"
	firstSigns   = smallLetters + capitals + "_"
	allSigns     = firstSigns + digits + "-."
)

// The lists of the chapter, written here once more, so that a name lost in the program is missed.
func reservedNames() []string {
	return []string{"annotation-xml", "color-profile", "font-face", "font-face-src",
		"font-face-uri", "font-face-format", "font-face-name", "missing-glyph"}
}

func knownNames() []string {
	return []string{"a", "b", "button", "div", "fieldset", "form", "i", "input", "label", "legend",
		"li", "option", "output", "p", "select", "span", "template", "textarea", "ul"}
}

// What each call is to answer of s: its kind, by the words of the chapter.
func checkKind(t *testing.T, s string, kind int) {
	t.Helper()
	if got := name.Kind(s); got != kind {
		t.Errorf("Kind(%q) = %d, not %d", s, got, kind)
	}
	if got := name.Right(s); got != (kind != 0) {
		t.Errorf("Right(%q) = %v", s, got)
	}
	if got := name.Custom(s); got != (kind == 1) {
		t.Errorf("Custom(%q) = %v", s, got)
	}
	if got := name.Known(s); got != (kind == 2) {
		t.Errorf("Known(%q) = %v", s, got)
	}
	checkFit(t, s, kind != 0)
}

func checkFit(t *testing.T, s string, right bool) {
	t.Helper()
	got, err := name.Fit(s)
	if right && (got != name.Small(s) || err != api.OK) {
		t.Errorf("Fit(%q) = %q, %d", s, got, err)
	}
	if !right && (got != "" || err != api.ErrName) {
		t.Errorf("Fit(%q) = %q, %d, not nothing and ErrName", s, got, err)
	}
}

// P1.1, P1.2: each byte there is, alone and behind each first sign.
func TestSigns(t *testing.T) {
	for c := range 256 {
		alone := string([]byte{byte(c)})
		first := strings.Contains(firstSigns, alone)
		if name.Right(alone) != first {
			t.Errorf("Right(%q) = %v", alone, !first)
		}
		checkFit(t, alone, first)
		for _, head := range []string{"a", "z", "A", "Z", "_", "x-"} {
			s := head + alone
			right := strings.Contains(allSigns, alone)
			if name.Right(s) != right {
				t.Errorf("Right(%q) = %v", s, !right)
			}
			checkFit(t, s, right)
		}
	}
}

// P1.1: no sign makes a name right that has a wrong one, wherever that stands.
func TestWrongSignAnywhere(t *testing.T) {
	for _, wrong := range []string{" ", "\x00", "\n", ":", "/", "@", "[", "`", "{", "\x7f", "\x80", "\xff", "\u00e4", "\u4e00"} {
		for i := range 10 {
			s := strings.Repeat("a", i) + "-" + wrong + "b-" + strings.Repeat("c", 9-i)
			checkKind(t, s, 0)
			checkKind(t, wrong+s, 0)
			checkKind(t, "x-a"+wrong, 0)
		}
	}
}

// P1.1, P1.2: none, one, 40 and 41 signs.
func TestLengths(t *testing.T) {
	checkKind(t, "", 0)
	checkKind(t, "_", 3)
	checkKind(t, "x", 3)
	for n := 2; n < 100; n++ {
		custom, other := 1, 3
		if n > 40 {
			custom, other = 0, 0
		}
		checkKind(t, "x"+strings.Repeat("-", n-1), custom)
		checkKind(t, strings.Repeat("x", n-1)+"-", custom)
		checkKind(t, strings.Repeat("x", n), other)
		checkKind(t, strings.Repeat("_", n), other)
	}
	checkKind(t, strings.Repeat("x-", 1<<20), 0)
}

// P1.2: ordinary names of each kind.
func TestKinds(t *testing.T) {
	for _, s := range []string{"x-a", "a-", "a--", "z-.", "a-_", "a-9", "a.b-c_9", "x-div", "div-x", "a-1.2.3", "m-z"} {
		checkKind(t, s, 1)
	}
	for _, s := range []string{"svg", "h1", "x", "_-", "_x-a", "a.b", "a_b", "a9", "divs", "di", "x_", "ul."} {
		checkKind(t, s, 3)
	}
	for _, s := range []string{"-", "-x", "-x-a", "9", "9x-a", ".", ".x-a", "x a", "x-a ", " x-a", "x-\xe4", "x-\u00e4", "\u00e4-x", "<x-a>"} {
		checkKind(t, s, 0)
	}
}

// P1.1: a custom name begins with any small letter, and has no capital anywhere.
func TestCustomLetters(t *testing.T) {
	for _, c := range smallLetters {
		checkKind(t, string(c)+"-", 1)
		checkKind(t, "x-"+string(c), 1)
	}
	for _, c := range capitals {
		checkKind(t, string(c)+"-", 3)
		checkKind(t, "x-"+string(c), 3)
		checkKind(t, "x"+string(c)+"-a", 3)
	}
}

// P1.1: the reserved names are names, but not custom; those beside them are.
func TestReserved(t *testing.T) {
	for _, s := range reservedNames() {
		checkKind(t, s, 3)
		checkKind(t, s+"-x", 1)
		checkKind(t, s+"x", 1)
		checkKind(t, "x"+s, 1)
		checkKind(t, strings.ToUpper(s), 3)
		checkKind(t, strings.ToUpper(s[:1])+s[1:], 3)
	}
	for _, s := range []string{"annotation-", "color-", "font-", "font-fac", "font-face-", "missing-", "annotation-xm"} {
		checkKind(t, s, 1)
	}
}

// P1.1: each known name, as it is written and no otherwise.
func TestKnown(t *testing.T) {
	for _, s := range knownNames() {
		checkKind(t, s, 2)
		checkKind(t, strings.ToUpper(s), 3)
		checkKind(t, strings.ToUpper(s[:1])+s[1:], 3)
		checkKind(t, s+"-", 1)
		checkKind(t, s+"9", 3)
		checkKind(t, s+" ", 0)
		checkKind(t, " "+s, 0)
	}
}

// P1.1: of names that are short, the known ones are just those of the list.
func TestNoOthersKnown(t *testing.T) {
	known := map[string]int{}
	for _, s := range knownNames() {
		known[s] = 1
	}
	for _, a := range allSigns {
		for _, b := range allSigns {
			for _, s := range []string{string(a), string(a) + string(b)} {
				if name.Known(s) != (known[s] == 1) {
					t.Errorf("Known(%q) = %v", s, name.Known(s))
				}
			}
		}
	}
	if name.Known("") {
		t.Error("nothing is a known name")
	}
}

// P1.1: Small changes A to Z, each into its own, and no byte else.
func TestSmallBytes(t *testing.T) {
	for c := range 256 {
		s := string([]byte{byte(c)})
		want := s
		if i := strings.Index(capitals, s); i >= 0 {
			want = smallLetters[i : i+1]
		}
		if got := name.Small(s); got != want {
			t.Errorf("Small(%q) = %q, not %q", s, got, want)
		}
	}
}

// P1.1: Small is of any text, names or none.
func TestSmallTexts(t *testing.T) {
	for s, want := range map[string]string{
		"":                              "",
		"x-a":                           "x-a",
		"X-A":                           "x-a",
		"aBZ-\u00c4x":                   "abz-\u00c4x",
		"\u212a\u0130\u03a3K":           "\u212a\u0130\u03a3k",
		"\xff\xc3A\x80 B\x00":           "\xff\xc3a\x80 b\x00",
		"@[`{":                          "@[`{",
		strings.Repeat("Ab \u00c9", 99): strings.Repeat("ab \u00c9", 99),
	} {
		if got := name.Small(s); got != want {
			t.Errorf("Small(%q) = %q, not %q", s, got, want)
		}
	}
}

// P1.2: Fit answers the small form, which may be of another kind.
func TestFit(t *testing.T) {
	for s, want := range map[string]string{"x-a": "x-a", "X-A": "x-a", "Div": "div", "DIV": "div",
		"_Q.9": "_q.9", "Font-Face": "font-face", strings.Repeat("Q", 40): strings.Repeat("q", 40)} {
		if got, err := name.Fit(s); got != want || err != api.OK {
			t.Errorf("Fit(%q) = %q, %d", s, got, err)
		}
	}
	for _, s := range []string{"", "9", "-A", "A B", "A\u00c4", "A\xff", strings.Repeat("Q", 41)} {
		checkFit(t, s, false)
	}
	if name.Kind("X-a") != 3 || name.Kind(name.Small("X-a")) != 1 {
		t.Error("X-a isn't custom, but its small form is")
	}
}

// P1.3: a custom name is never known, and its own small form.
func TestCustomIsSmallAndUnknown(t *testing.T) {
	seen := 0
	check := func(s string) {
		if !name.Custom(s) {
			return
		}
		seen++
		if name.Known(s) || name.Small(s) != s || !name.Right(s) {
			t.Errorf("%q is custom, but known, not small, or no name", s)
		}
		if fit, err := name.Fit(s); fit != s || err != api.OK {
			t.Errorf("Fit(%q) = %q, %d", s, fit, err)
		}
	}
	for a := range 256 {
		for b := range 256 {
			check(string([]byte{byte(a), byte(b)}))
			check(string([]byte{byte(a), '-', byte(b)}))
		}
	}
	// 26 with - behind; then a small letter, -, and one of 39 signs without the capitals.
	if want := 26 + 26*39; seen != want {
		t.Errorf("%d names are custom, not %d", seen, want)
	}
	for _, s := range append(knownNames(), reservedNames()...) {
		if name.Custom(s) {
			t.Errorf("%q is custom", s)
		}
	}
}
