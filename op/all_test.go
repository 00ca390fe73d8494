package op_test

import (
	"strings"
	"testing"

	"instar/api"
	"instar/op"
	"instar/sample"
)

// checkText checks what is read from s, against the chapter's words, and that it is put so again.
func checkText(t *testing.T, s string) bool {
	t.Helper()
	want, no := readByWords(s)
	o, err := op.Read(s)
	if o != want || err != no {
		t.Errorf("%q is read as %v, %d, not as %v, %d", s, o, err, want, no)
	}
	if err != api.OK {
		return false
	}
	if back, no := op.Put(o); back != s || no != api.OK || !op.Right(o) {
		t.Errorf("%q is read as %v, and put as %q, %d", s, o, back, no)
	}
	return true
}

// P16.1, P16.4: what is right is put as the chapter's words say, and read from that as it was.
func TestWords(t *testing.T) {
	for seed := range 20000 {
		o := sample.RightOp(seed, api.MaxNodes)
		s, err := op.Put(o)
		want, no := putByWords(o)
		if s != want || err != no || err != api.OK || !op.Right(o) {
			t.Errorf("%v is put as %q, %d, not as %q", o, s, err, want)
		}
		if back, err := op.Read(s); back != o || err != api.OK || !checkText(t, s) {
			t.Errorf("%q is read as %v, %d, not as %v", s, back, err, o)
		}
	}
}

// P16.1, P16.2: what is right turned to what mostly isn't: another Kind, or others' fields.
func TestTurned(t *testing.T) {
	right := 0
	for seed := range 20000 {
		o, other := sample.RightOp(seed, 9), sample.RightOp(seed+77777, 9)
		for _, x := range []api.Op{
			{Kind: other.Kind, A: o.A, B: o.B, C: o.C, S: o.S, T: o.T}, {Kind: o.Kind, A: other.A, B: o.B, C: other.C, S: o.S, T: other.T, Must: true},
			{Kind: o.Kind, A: o.A - 1, B: o.B, C: o.C, S: o.S, T: o.T}, {Kind: o.Kind, A: o.A, B: o.B + 1, C: o.C, S: o.S, T: o.T}, {Kind: o.Kind, A: o.A, B: o.B, C: o.C - 1, S: o.S, T: o.T + "\n"},
		} {
			s, err := op.Put(x)
			want, no := putByWords(x)
			if s != want || err != no || op.Right(x) != (no == api.OK) {
				t.Errorf("%v: right %v, put as %q, %d, not as %q, %d", x, op.Right(x), s, err, want, no)
			}
			if err == api.OK {
				right++
			}
			checkAim(t, x, seed%12-2, seed/7%12-1)
		}
		checkAim(t, o, seed%12-2, seed/7%12-1)
	}
	if right < 9000 || right > 91000 {
		t.Errorf("%d of them are right", right)
	}
}

// checkAim checks whom o means, against the chapter's words.
func checkAim(t *testing.T, o api.Op, self, many int) {
	t.Helper()
	want, no := aimByWords(o, self, many)
	if got, err := op.Aim(o, self, many); got != want || err != no {
		t.Errorf("%v at %d among %d: %v, %d, not %v, %d", o, self, many, got, err, want, no)
	}
}

// P16.1, P16.4: all that may be made of an operation's word, and a few of what may stand behind it.
func TestWordsBehind(t *testing.T) {
	some := []string{"", "0", "-", "-1", "self", "last", "399", "400", "1000", `""`, `"a\""`}
	read := 0
	for _, word := range append([]string{"", "bad"}, words...) {
		for long := range 5 {
			total := 1
			for range long {
				total *= len(some)
			}
			for at := range total {
				s := word
				for range long {
					s += " " + some[at%len(some)]
					at /= len(some)
				}
				if checkText(t, s) {
					read++
				}
			}
		}
	}
	if read < 500 {
		t.Errorf("only %d are read", read)
	}
}

// P16.1: operations' texts with a sign more, less, or another one, at each place; two texts, one behind the other.
func TestSigns(t *testing.T) {
	signs := strings.Split("\" \\ ! - + 0 1 9 a s . ? \n \t \x00 \xff", " ")
	signs = append(signs, " ", "  ", `\"`)
	for s := range some() {
		for at := range len(s) + 1 {
			checkText(t, s[:at])
			checkText(t, s[at:])
			checkText(t, s[at:]+s[:at])
			for _, sign := range signs {
				checkText(t, s[:at]+sign+s[at:])
				checkText(t, s[:at]+sign+s[min(at+1, len(s)):])
			}
			if at < len(s) {
				checkText(t, s[:at]+s[at+1:])
				checkText(t, s[:at]+s[at:at+1]+s[at:])
			}
		}
		checkText(t, s+s)
		checkText(t, s+"\n")
		checkText(t, strings.ToUpper(s))
	}
}

// P16.2: each operation at edges, against the chapter's words.
func TestAimWords(t *testing.T) {
	for _, o := range some() {
		for _, self := range []int{api.None, 0, 1, 8, 9, 399, 400, -2, -3, sample.Least, sample.Greatest} {
			for _, many := range []int{0, 1, 2, 3, 9, 10, 399, 400, 401, -1, sample.Least, sample.Greatest} {
				checkAim(t, o, self, many)
			}
		}
	}
}
