package plan

import (
	"errors"
	"strconv"

	"drumline/api"
)

// What may be wrong with parts and links.
var (
	errParts = errors.New("too few or too many parts")
	errNodes = errors.New("the part cannot have these nodes and faults")
	errLinks = errors.New("too many links")
	errEnds  = errors.New("the link does not join a part to a later one")
	errTwice = errors.New("an earlier link joins the same parts")
	errPorts = errors.New("the link cannot have these ports")
	errApart = errors.New("the part is not reached from part 0")
)

// fault is an error with the number of the part or link at which it was found.
type fault struct {
	err error
	at  int
}

// Error tells the number ahead of what is wrong there.
func (f *fault) Error() string {
	return strconv.Itoa(f.at) + ": " + f.err.Error()
}

// Unwrap returns the error without its number.
func (f *fault) Unwrap() error { return f.err }

// number returns the error's number in package api; OK for none.
func number(err error) api.Errno {
	switch {
	case err == nil:
		return api.OK
	case errors.Is(err, errParts):
		return api.ErrParts
	case errors.Is(err, errNodes):
		return api.ErrNodes
	case errors.Is(err, errLinks):
		return api.ErrLinks
	case errors.Is(err, errEnds):
		return api.ErrEnds
	case errors.Is(err, errTwice):
		return api.ErrTwice
	case errors.Is(err, errPorts):
		return api.ErrPorts
	}
	return api.ErrApart
}

// place returns the number of the part or link with which the error is wrapped; 0 for no error.
func place(err error) int {
	var f *fault
	if errors.As(err, &f) {
		return f.at
	}
	return 0
}
