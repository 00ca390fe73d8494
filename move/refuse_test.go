package move

import (
	"errors"
	"testing"

	"instar/api"
)

// Why a step was refused is found, however deep it is wrapped; what is no refusal has no number.
func TestWhy(t *testing.T) {
	err := refuse("insert", api.ErrTree)
	if err.Error() != "insert: error 5" {
		t.Errorf("it says %q", err.Error())
	}
	for _, c := range []struct {
		err error
		no  api.Errno
	}{
		{err, api.ErrTree}, {refused{step: "replace", why: err}, api.ErrTree}, {fault(api.ErrArg), api.ErrArg},
		{nil, api.OK}, {errors.New("another"), api.OK}, {refused{step: "set", why: errors.New("another")}, api.OK},
	} {
		if no := why(c.err); no != c.no {
			t.Errorf("of %v: %d, not %d", c.err, no, c.no)
		}
	}
}
