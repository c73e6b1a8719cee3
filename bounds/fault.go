package bounds

import (
	"errors"
	"strconv"

	"drumline/api"
)

// errRange is what is wrong where a condition does not hold.
var errRange = errors.New("the condition does not hold")

// structure is an error of plan.Check.
type structure struct{ number api.Errno }

// Error tells the error's number.
func (s *structure) Error() string {
	return "the parts and links have the error " + strconv.Itoa(int(s.number))
}

// fault is an error with the number of the condition, or of the part or link, at which it was found.
type fault struct {
	err error
	at  int
}

// Error tells the number ahead of what is wrong there.
func (f *fault) Error() string {
	return strconv.Itoa(f.at) + ": " + f.err.Error()
}

// Unwrap returns the error without its number.
func (f *fault) Unwrap() error { return f.err }

// number returns the error's number in package api; OK for none.
func number(err error) api.Errno {
	var s *structure
	switch {
	case errors.As(err, &s):
		return s.number
	case errors.Is(err, errRange):
		return api.ErrRange
	}
	return api.OK
}

// place returns the number with which the error is wrapped; 0 for no error.
func place(err error) int {
	var f *fault
	if errors.As(err, &f) {
		return f.at
	}
	return 0
}
