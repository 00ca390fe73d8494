package move

import (
	"errors"
	"strconv"

	"instar/api"
)

// fault is an error's number, where an error is asked for.
type fault api.Errno

func (e fault) Error() string {
	return "error " + strconv.Itoa(int(e))
}

// refused tells which step isn't done, and wraps why.
type refused struct {
	step string
	why  error
}

func (r refused) Error() string {
	return r.step + ": " + r.why.Error()
}

func (r refused) Unwrap() error {
	return r.why
}

func refuse(step string, no api.Errno) error {
	return refused{step: step, why: fault(no)}
}

// why answers the number of the fault that err wraps; no error, no fault.
func why(err error) api.Errno {
	var e fault
	if errors.As(err, &e) {
		return api.Errno(e)
	}
	return api.OK
}
