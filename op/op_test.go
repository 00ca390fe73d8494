package op_test

import (
	"slices"
	"strings"
	"testing"

	"instar/api"
	"instar/op"
	"instar/sample"
)

// long is a text of as many bytes as may be, and so many more.
func long(more int) string { return strings.Repeat("\xff", api.MaxValue+more) }

// some are operations of each Kind, and their texts.
func some() map[string]api.Op {
	return map[string]api.Op{
		`new 0 "x-a" "x-b"`:      {Kind: 1, S: "x-a", T: "x-b"},
		`draft 12 "" ""`:         {Kind: 2, A: 12},
		`text 100 "a b"`:         {Kind: 3, A: 100, S: "a b"},
		`frag 399`:               {Kind: 4, A: 399},
		`shade self`:             {Kind: 5, A: -2},
		`put last self -`:        {Kind: 6, A: -3, B: -2, C: -1},
		`out 1`:                  {Kind: 7, A: 1},
		`swap 1 last 2`:          {Kind: 8, A: 1, B: -3, C: 2},
		`set 3 "a" "\"\\"`:       {Kind: 9, A: 3, S: "a", T: `"\`},
		`unset 3 "-"`:            {Kind: 10, A: 3, S: "-"},
		`toggle self -1 "t"`:     {Kind: 11, A: -2, B: -1, S: "t"},
		`copy 1 -3 last`:         {Kind: 12, A: 1, B: -3, C: -3},
		`take 0 399`:             {Kind: 13, B: 399},
		`empty 10`:               {Kind: 14, A: 10},
		`join last`:              {Kind: 15, A: -3},
		`define -1000 "" "p"`:    {Kind: 16, A: -1000, T: "p"},
		`wait "self"`:            {Kind: 17, S: "self"},
		`upgrade 200`:            {Kind: 18, A: 200},
		`build 1000`:             {Kind: 19, A: 1000},
		`super`:                  {Kind: 20},
		`give self`:              {Kind: 21, A: -2},
		`throw`:                  {Kind: 22},
		`reset 9`:                {Kind: 23, A: 9},
		"restore 9 \"\r\t\xff\"": {Kind: 24, A: 9, S: "\r\t\xff"},
		`rest`:                   {Kind: 25},
		`handput 1 2 self`:       {Kind: 26, A: 1, B: 2, C: -2},
		`handout 9`:              {Kind: 27, A: 9},
		`handset 0 "" "!"`:       {Kind: 28, T: "!"},
	}
}

// P16.1, P16.4: an operation of each Kind, whose error is thrown or isn't, is put as its text, and read from it.
func TestPutRead(t *testing.T) {
	for s, o := range some() {
		for _, must := range []bool{false, true} {
			if must {
				s, o.Must = "!"+s, true
			}
			if !op.Right(o) {
				t.Errorf("%v isn't right", o)
			}
			if got, err := op.Put(o); got != s || err != api.OK {
				t.Errorf("%v is put as %q, %d, not as %q", o, got, err, s)
			}
			if got, err := op.Read(s); got != o || err != api.OK {
				t.Errorf("%q is read as %v, %d, not as %v", s, got, err, o)
			}
		}
	}
}

// The chapter's example.
func TestExample(t *testing.T) {
	o := api.Op{Kind: api.PutOp, A: api.Self, C: api.None, Must: true}
	if s, err := op.Put(o); s != "!put self 0 -" || err != api.OK {
		t.Errorf("%q, %d", s, err)
	}
}

// wrong checks that o isn't right, so that it has no text, and can't be aimed.
func wrong(t *testing.T, o api.Op) {
	t.Helper()
	if op.Right(o) {
		t.Errorf("%v is right", o)
	}
	if s, err := op.Put(o); s != "" || err != api.ErrArg {
		t.Errorf("%v is put as %q, %d", o, s, err)
	}
	if a, err := op.Aim(o, 0, api.MaxNodes); a != (api.Op{}) || err != api.ErrForm {
		t.Errorf("%v is aimed: %v, %d", o, a, err)
	}
	if a, err := op.Aim(o, api.None, 0); a != (api.Op{}) || err != api.ErrForm {
		t.Errorf("%v is aimed among none: %v, %d", o, a, err)
	}
}

// P16.1, P16.2: what is of no Kind is not right, whatever its fields are.
func TestNoKind(t *testing.T) {
	for _, kind := range []int{0, -1, -2, 29, 30, 256 + 3, 1 << 32, sample.Least, sample.Greatest} {
		wrong(t, api.Op{Kind: kind})
		wrong(t, api.Op{Kind: kind, Must: true})
		wrong(t, api.Op{Kind: kind, A: 1, B: 1, C: 1, S: "s", T: "t"})
	}
}

// P16.1, P16.2: what may stand in each field of each Kind, and what mayn't, at the edges; the fields that a Kind
// hasn't are 0 and empty.
func TestFields(t *testing.T) {
	texts := map[string]bool{"": true, "a": true, " \r\t\x00": true, long(-1): true, long(0): true, long(1): false, long(99): false, "\n": false, "a\nb": false, "a\n": false}
	for _, o := range some() {
		fields := sample.Fields(o.Kind)
		for _, field := range []string{"node A", "number A", "node B", "number B", "node C", "node or none C"} {
			has := slices.Contains(fields, field)
			if !has && slices.ContainsFunc(fields, func(s string) bool { return s[len(s)-1] == field[len(field)-1] }) {
				continue
			}
			for _, n := range []int{0, 1, 2, 398, 399, 400, 401, 999, 1000, 1001, -1, -2, -3, -4, -999, -1000, -1001, 1 << 32, sample.Least, sample.Greatest} {
				what := o
				*sample.NumberAt(&what, field) = n
				may := n == 0
				switch {
				case has && strings.HasPrefix(field, "number"):
					may = n >= -1000 && n <= 1000
				case has:
					may = n >= 0 && n < 400 || n == -2 || n == -3 || n == -1 && field == "node or none C"
				}
				checkRight(t, what, may)
			}
		}
		for _, field := range []string{"text S", "text T"} {
			for s, may := range texts {
				what := o
				*sample.TextAt(&what, field) = s
				checkRight(t, what, s == "" || may && slices.Contains(fields, field))
			}
		}
	}
}

// checkRight checks whether o is right, and that it has a text just then.
func checkRight(t *testing.T, o api.Op, right bool) {
	t.Helper()
	if !right {
		wrong(t, o)
		return
	}
	s, err := op.Put(o)
	if back, no := op.Read(s); !op.Right(o) || err != api.OK || no != api.OK || back != o {
		t.Errorf("%v: put as %q, %d, read as %v, %d", o, s, err, back, no)
	}
}

// P16.1: what is no operation's text.
func TestReadForm(t *testing.T) {
	for what, all := range map[string][]string{
		"no word":         {"", " ", "!", "! ", "\n", "-", "0", `""`, "self", "?", "bad", "# rest", "\x00", "!!"},
		"another word":    {"Rest", "REST", "res", "restt", "rest0", "supers", "ne", "news 0", "hand 0", "put-", "newop 0", "comment", "é"},
		"what is thrown":  {"!!rest", "! rest", "rest!", "rest !", "!\nrest", "!?", " !rest", "-rest"},
		"a blank":         {" rest", "rest ", "rest  ", "\trest", "rest\n", "rest\r", "frag  0", " frag 0", "frag 0 ", "frag\t0", "frag 0\n", "wait  \"a\"", "wait\"a\"", `wait "a" `, `text 0"a"`, `new 0 "a""b"`, `new 0 "a"  "b"`, `new 0 "a" "b" `, `new 0  "a" "b"`, `define 0"a" "b"`, "put 1 0  -", "put 1  0 -", "put 1 0 - "},
		"too few":         {"frag", "frag ", "put", "put 0", "put 0 0", "put 0 0 ", "take 1", "take 1 ", "wait", "wait ", "new", "new 0", `new 0 "a"`, `new 0 "a" `, "text 0", "toggle 0 1", `toggle 0 "a"`, "copy 1 1", "define", `define "a" "b"`, `define 0 "a"`, "build", "build "},
		"too many":        {"rest 0", "super self", "throw -", `rest ""`, "frag 0 0", "frag 0 -", `frag 0 ""`, "put 0 0 0 0", "put 0 0 - -", `put 0 0 - ""`, "take 0 0 0", "take 0 0 -", `wait "" ""`, `new 0 "" "" ""`, `text 0 "" ""`, "build 0 0", "copy 0 0 0 0", "handout 0 0", `wait "a"b`, `wait "a"""`, "rest!rest"},
		"another field":   {`frag "0"`, `frag ""`, "text 0 a", "text 0 0", "wait a", "wait 0", "wait -", "build self", "build last", "build -", "build \"1\"", `toggle 0 self "a"`, `toggle 0 - "a"`, "copy 0 last 0", `toggle "a" 0`, `toggle 0 "a" 0`, "define self \"a\" \"b\""},
		"a node":          {"frag 400", "frag 1000", "frag -1", "frag -2", "frag -3", "frag -0", "frag 00", "frag 01", "frag 0399", "frag +1", "frag 1.", "frag 1e1", "frag 0x1", "frag 1_0", "frag ", "frag x", "frag -", "frag Self", "frag SELF", "frag selfs", "frag sel", "frag Last", "frag lastt", "frag none", "frag \xff", "frag ١", "frag 99999999999999999999", "frag -99999999999999999999", "frag 18446744073709551616"},
		"a node or none":  {"put 0 0 -1", "put 0 0 -2", "put 0 0 -3", "put 0 0 --", "put 0 0 none", "put 0 0 400", "put 0 - 0", "put - 0 0", "put 0 0 -0", "swap - 0 0", "handput 0 - 0", "copy - 0 0", "copy 0 0 -", "take 0 -", "take - 0", "give -", "upgrade -", "handset - \"\" \"\""},
		"a number":        {"build 1001", "build -1001", "build 9999", "build -0", "build 00", "build 01", "build -01", "build +1", "build --1", "build - 1", "build 1.0", "build 1e2", "build 0x1", "build 1_000", "build 99999999999999999999", "build -99999999999999999999", "build ١"},
		"a text":          {`wait "`, `wait "a`, `wait a"`, `wait """`, `wait "\"`, `wait "\a"`, `wait "\n"`, `wait "a\`, `wait "\\\"`, "wait 'a'", "wait \"a\nb\"", "wait \"\n\"", `wait "` + long(1) + `"`, `wait "` + long(1<<20) + `"`, `set 0 "` + long(0) + `" "` + long(1) + `"`, `wait "` + strings.Repeat(`\"`, 201) + `"`, `wait "`, `set 0 "a" "b`, `set 0 "a b"`, `set 0 "a\" "b"`, `wait "a"\`},
		"several at once": {"rest\nrest", "rest rest", "frag 0\nfrag 1", "super;throw", `wait ""wait ""`},
	} {
		for _, s := range all {
			if o, err := op.Read(s); o != (api.Op{}) || err != api.ErrForm {
				t.Errorf("%s, %q: %v, %d", what, s[:min(len(s), 99)], o, err)
			}
		}
	}
}

// P16.1: texts as long as may be are read, quotes and all.
func TestReadLong(t *testing.T) {
	quotes := strings.Repeat(`\"`, api.MaxValue)
	o, err := op.Read(`set 0 "` + long(0) + `" "` + quotes + `"`)
	if want := (api.Op{Kind: api.SetOp, S: long(0), T: strings.Repeat(`"`, api.MaxValue)}); o != want || err != api.OK {
		t.Errorf("%v, %d", o, err)
	}
}

// P16.2: who is meant, by each of the nodes that an operation has.
func TestAim(t *testing.T) {
	none := api.Op{}
	for _, c := range []struct {
		o          api.Op
		self, many int
		want       api.Op
		err        api.Errno
	}{
		{api.Op{Kind: api.PutOp, A: api.Self, B: api.Last, C: api.None}, 2, 4, api.Op{Kind: api.PutOp, A: 2, B: 3, C: api.None}, api.OK},
		{api.Op{Kind: api.PutOp, A: api.Last, B: 1, C: api.Self, Must: true}, 0, 2, api.Op{Kind: api.PutOp, A: 1, B: 1, C: 0, Must: true}, api.OK},
		{api.Op{Kind: api.SwapOp, A: 1, B: api.Self, C: api.Last}, 3, 400, api.Op{Kind: api.SwapOp, A: 1, B: 3, C: 399}, api.OK},
		{api.Op{Kind: api.CopyOp, A: api.Self, B: -2, C: api.Last}, 3, 9, api.Op{Kind: api.CopyOp, A: 3, B: -2, C: 8}, api.OK},
		{api.Op{Kind: api.CopyOp, A: 0, B: -3, C: 0}, api.None, 1, api.Op{Kind: api.CopyOp, B: -3}, api.OK},
		{api.Op{Kind: api.CopyOp, A: 0, B: 1000, C: 1}, 0, 1, none, api.ErrNone},
		{api.Op{Kind: api.TakeOp, A: api.Last, B: api.Last}, 7, 1, api.Op{Kind: api.TakeOp}, api.OK},
		{api.Op{Kind: api.HandPutOp, A: 0, B: 0, C: 3}, 0, 3, none, api.ErrNone},
		{api.Op{Kind: api.HandPutOp, A: 0, B: 3, C: api.None}, 0, 3, none, api.ErrNone},
		{api.Op{Kind: api.HandPutOp, A: 3, B: 0, C: api.None}, 0, 3, none, api.ErrNone},
		{api.Op{Kind: api.HandPutOp, A: 2, B: 2, C: 2}, 0, 3, api.Op{Kind: api.HandPutOp, A: 2, B: 2, C: 2}, api.OK},
		{api.Op{Kind: api.PutOp, A: 0, B: 0, C: api.Self}, api.None, 9, none, api.ErrNone},
		{api.Op{Kind: api.PutOp, A: 0, B: 0, C: api.Last}, api.None, 0, none, api.ErrNone},
		{api.Op{Kind: api.PutOp, A: 0, B: 0, C: api.None}, 0, 0, none, api.ErrNone},
		{api.Op{Kind: api.SetOp, A: api.Self, S: "a", T: "b"}, 4, 5, api.Op{Kind: api.SetOp, A: 4, S: "a", T: "b"}, api.OK},
		{api.Op{Kind: api.FragOp, A: 399}, 0, 400, api.Op{Kind: api.FragOp, A: 399}, api.OK},
		{api.Op{Kind: api.FragOp, A: 399}, 0, 399, none, api.ErrNone},
		{api.Op{Kind: api.BuildOp, A: api.Self}, 0, 9, api.Op{Kind: api.BuildOp, A: api.Self}, api.OK},
		{api.Op{Kind: api.DefineOp, A: api.Last, S: "x-a"}, 0, 9, api.Op{Kind: api.DefineOp, A: api.Last, S: "x-a"}, api.OK},
		{api.Op{Kind: api.ToggleOp, A: api.Self, B: api.Self}, 0, 9, api.Op{Kind: api.ToggleOp, B: api.Self}, api.OK},
		{api.Op{Kind: api.RestOp}, api.None, 0, api.Op{Kind: api.RestOp}, api.OK},
		{api.Op{Kind: api.WaitOp, S: "self"}, sample.Least, sample.Least, api.Op{Kind: api.WaitOp, S: "self"}, api.OK},
	} {
		if got, err := op.Aim(c.o, c.self, c.many); got != c.want || err != c.err {
			t.Errorf("%v at %d among %d: %v, %d, not %v, %d", c.o, c.self, c.many, got, err, c.want, c.err)
		}
	}
}

// P16.2: Self that is nobody among so many, Last where there is none, and more nodes than a forest has.
func TestAimNobody(t *testing.T) {
	self, last, here := api.Op{Kind: api.OutOp, A: api.Self}, api.Op{Kind: api.OutOp, A: api.Last}, api.Op{Kind: api.OutOp, A: 0}
	for _, n := range []int{api.None, api.Self, api.Last, api.Taken, 9, 10, 400, sample.Least, sample.Greatest} {
		if o, err := op.Aim(self, n, 9); o != (api.Op{}) || err != api.ErrNone {
			t.Errorf("self %d: %v, %d", n, o, err)
		}
		if o, err := op.Aim(last, n, 9); o != (api.Op{Kind: api.OutOp, A: 8}) || err != api.OK {
			t.Errorf("last, self %d: %v, %d", n, o, err)
		}
	}
	for _, many := range []int{0, -1, -2, -400, sample.Least} {
		for _, o := range []api.Op{self, last, here} {
			for _, n := range []int{0, many, many - 1, api.None} {
				if o, err := op.Aim(o, n, many); o != (api.Op{}) || err != api.ErrNone {
					t.Errorf("%d among %d: %v, %d", n, many, o, err)
				}
			}
		}
	}
	for _, many := range []int{500, sample.Greatest} {
		if o, err := op.Aim(last, 0, many); o != (api.Op{Kind: api.OutOp, A: many - 1}) || err != api.OK {
			t.Errorf("last of %d: %v, %d", many, o, err)
		}
		if o, err := op.Aim(self, many-1, many); o != (api.Op{Kind: api.OutOp, A: many - 1}) || err != api.OK {
			t.Errorf("self of %d: %v, %d", many, o, err)
		}
	}
}

// P16.3: of the Kinds alone, of what is no Kind, too, and whatever the fields are.
func TestKinds(t *testing.T) {
	moving := strings.Fields("shade put out swap set unset toggle take empty join handput handout handset")
	carrying := strings.Fields("new draft text frag shade put out swap set unset toggle copy take empty join define upgrade reset")
	for kind := -3; kind < 40; kind++ {
		still, carries := true, false
		if kind >= 1 && kind <= 28 {
			still, carries = !slices.Contains(moving, words[kind-1]), slices.Contains(carrying, words[kind-1])
		}
		for _, o := range []api.Op{{Kind: kind}, {Kind: kind, A: 7, B: 7, C: 7, S: "\n", T: long(1), Must: true}, {Kind: kind, A: sample.Least}} {
			if op.Still(o) != still || op.Carries(o) != carries {
				t.Errorf("%v: Still %v, Carries %v", o, op.Still(o), op.Carries(o))
			}
		}
	}
	for _, kind := range []int{sample.Least, sample.Greatest, 1<<32 + 5} {
		if o := (api.Op{Kind: kind}); !op.Still(o) || op.Carries(o) {
			t.Errorf("%v: Still %v, Carries %v", o, op.Still(o), op.Carries(o))
		}
	}
}
