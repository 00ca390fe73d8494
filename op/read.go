package op

import (
	"strings"

	"instar/api"
	"instar/quote"
)

// read answers the operation whose text s is. If it is none's, that is any operation.
func read(s string) api.Op {
	s, must := strings.CutPrefix(s, "!")
	r := reader{s}
	kind := kindOf(r.word())
	var n [3]int
	for i, f := range shapes[kind].fields {
		if f != nothing {
			n[i] = f.read(r.word())
		}
	}
	var t [2]string
	for i := range shapes[kind].texts {
		t[i] = r.quoted()
	}
	return api.Op{Kind: kind, A: n[0], B: n[1], C: n[2], S: t[0], T: t[1], Must: must}
}

// reader reads what stands between blanks, from the front of a text on. It doesn't look whether it may stand
// there.
type reader struct{ rest string }

// word reads up to the next blank, or the end.
func (r *reader) word() string {
	word, rest, _ := strings.Cut(r.rest, " ")
	r.rest = rest
	return word
}

// quoted reads a quoted text, and the blank behind it. It may have blanks, too.
func (r *reader) quoted() string {
	text, rest, _ := quote.Cut(r.rest)
	r.rest = strings.TrimPrefix(rest, " ")
	return text
}
