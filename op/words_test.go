package op_test

import (
	"regexp"
	"slices"
	"strconv"
	"strings"

	"instar/api"
	"instar/sample"
)

// The chapter's words once more, by other means, to hold the program against.

// words stand in the order of the Kinds, from NewOp on.
var words = strings.Fields("new draft text frag shade put out swap set unset toggle copy take empty join define wait upgrade build super give throw reset restore rest handput handout handset")

// isNode tells whether n is one of those that a field that is a node may have.
func isNode(n int) bool { return 0 <= n && n <= 399 || n == -2 || n == -3 }

// hasField tells whether what stands in that field of o may stand there.
func hasField(o api.Op, field string) bool {
	switch field[:len(field)-2] {
	case "node":
		return isNode(*sample.NumberAt(&o, field))
	case "node or none":
		return isNode(*sample.NumberAt(&o, field)) || *sample.NumberAt(&o, field) == -1
	case "number":
		return *sample.NumberAt(&o, field) >= -1000 && *sample.NumberAt(&o, field) <= 1000
	}
	s := *sample.TextAt(&o, field)
	return len(s) <= 200 && !strings.Contains(s, "\n")
}

func rightByWords(o api.Op) bool {
	if o.Kind < 1 || o.Kind > 28 {
		return false
	}
	others := o
	for _, field := range sample.Fields(o.Kind) {
		if !hasField(o, field) {
			return false
		}
		if strings.HasPrefix(field, "text") {
			*sample.TextAt(&others, field) = ""
		} else {
			*sample.NumberAt(&others, field) = 0
		}
	}
	return others == api.Op{Kind: o.Kind, Must: o.Must}
}

// fieldText is what stands in that field of o, as text.
func fieldText(o api.Op, field string) string {
	if strings.HasPrefix(field, "text") {
		return `"` + strings.NewReplacer(`"`, `\"`, `\`, `\\`).Replace(*sample.TextAt(&o, field)) + `"`
	}
	n := *sample.NumberAt(&o, field)
	if other := map[int]string{-2: "self", -3: "last", -1: "-"}[n]; other != "" && strings.HasPrefix(field, "node") {
		return other
	}
	return strconv.Itoa(n)
}

func putByWords(o api.Op) (string, api.Errno) {
	if !rightByWords(o) {
		return "", api.ErrArg
	}
	s := words[o.Kind-1]
	if o.Must {
		s = "!" + s
	}
	for _, field := range sample.Fields(o.Kind) {
		s += " " + fieldText(o, field)
	}
	return s, api.OK
}

// forms are what stands in a field of each sort, as text.
var forms = map[string]string{
	"node":         ` (self|last|0|[1-9][0-9]?|[123][0-9][0-9])`,
	"node or none": ` (-|self|last|0|[1-9][0-9]?|[123][0-9][0-9])`,
	"number":       ` (0|-?[1-9][0-9]?[0-9]?|-?1000)`,
	"text":         ` "((?:[^"\\\n]|\\["\\])*)"`,
}

// kindForms are the forms of the operations' texts, in the order of the Kinds, from NewOp on.
var kindForms = makeForms()

func makeForms() []*regexp.Regexp {
	var all []*regexp.Regexp
	for i, word := range words {
		s := `^(!?)` + word
		for _, field := range sample.Fields(i + 1) {
			s += forms[field[:len(field)-2]]
		}
		all = append(all, regexp.MustCompile(s+`$`))
	}
	return all
}

func readByWords(s string) (api.Op, api.Errno) {
	first, _, _ := strings.Cut(strings.TrimPrefix(s, "!"), " ")
	kind := slices.Index(words, first) + 1
	if kind == 0 {
		return api.Op{}, api.ErrForm
	}
	found := kindForms[kind-1].FindStringSubmatch(s)
	if found == nil {
		return api.Op{}, api.ErrForm
	}
	o := api.Op{Kind: kind, Must: found[1] == "!"}
	for i, field := range sample.Fields(kind) {
		what := found[i+2]
		if strings.HasPrefix(field, "text") {
			*sample.TextAt(&o, field) = strings.NewReplacer(`\"`, `"`, `\\`, `\`).Replace(what)
			continue
		}
		n, other := map[string]int{"self": -2, "last": -3, "-": -1}[what]
		if !other {
			n, _ = strconv.Atoi(what)
		}
		*sample.NumberAt(&o, field) = n
	}
	if len(o.S) > 200 || len(o.T) > 200 {
		return api.Op{}, api.ErrForm
	}
	return o, api.OK
}

func aimByWords(o api.Op, self, many int) (api.Op, api.Errno) {
	if !rightByWords(o) {
		return api.Op{}, api.ErrForm
	}
	for _, field := range sample.Fields(o.Kind) {
		if !strings.HasPrefix(field, "node") || strings.HasPrefix(field, "node or none") && *sample.NumberAt(&o, field) == -1 {
			continue
		}
		n := sample.NumberAt(&o, field)
		switch *n {
		case -2:
			*n = self
		case -3:
			*n = many - 1
		}
		if *n < 0 || *n >= many {
			return api.Op{}, api.ErrNone
		}
	}
	return o, api.OK
}
