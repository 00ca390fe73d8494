package quote_test

import (
	"strings"
	"testing"

	"instar/quote"
)

// What is quoted is cut from what stands behind it, whatever that is.
func TestCut(t *testing.T) {
	for s, want := range map[string]string{
		`""`:                   "",
		`"a"`:                  "a",
		`"\""`:                 `"`,
		`"\\"`:                 `\`,
		`"\\\""`:               `\"`,
		`"a\"b\\c"`:            `a"b\c`,
		"\"\n\t\x00\xff\xc3\"": "\n\t\x00\xff\xc3",
		`"\\n"`:                `\n`,
	} {
		for _, behind := range []string{"", " ", `"`, `\`, `""`, `"b"`, "x\n"} {
			if text, rest, ok := quote.Cut(s + behind); text != want || rest != behind || !ok {
				t.Errorf("%q: %q, %q, %v", s+behind, text, rest, ok)
			}
		}
	}
}

// What begins with no quoted text.
func TestCutNone(t *testing.T) {
	for _, s := range []string{"", "a", " ", `\`, `"`, `"a`, `"\`, `"\"`, `"\\`, `"\a"`, `"\n"`, "\"\\\n\"", `"\ "`, ` "a"`, `'a'`, `a"b"`, `\""`} {
		if text, rest, ok := quote.Cut(s); text != "" || rest != "" || ok {
			t.Errorf("%q: %q, %q, %v", s, text, rest, ok)
		}
	}
}

// Each byte stands for itself, but for the two signs that have one ahead.
func TestCutBytes(t *testing.T) {
	for c := range 256 {
		s := string([]byte{byte(c)})
		text, _, ok := quote.Cut(`"` + s + `"`)
		if sign := s == `"` || s == `\`; !sign && (text != s || !ok) || s == `\` && ok || s == `"` && (text != "" || !ok) {
			t.Errorf("%q: %q, %v", s, text, ok)
		}
		if text, _, ok = quote.Cut(`"\` + s + `"`); ok != (s == `"` || s == `\`) || ok && text != s {
			t.Errorf("%q behind a sign: %q, %v", s, text, ok)
		}
	}
	long := strings.Repeat(`\"\\x`, 1<<18)
	if text, rest, ok := quote.Cut(`"` + long + `"` + long); text != strings.Repeat(`"\x`, 1<<18) || rest != long || !ok {
		t.Error("a long text isn't cut")
	}
}
