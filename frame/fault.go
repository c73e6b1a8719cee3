package frame

import (
	"errors"
	"strconv"

	"drumline/api"
)

// What may be wrong with bytes.
var (
	errShort = errors.New("the bytes end too early")
	errSum   = errors.New("the sum is wrong")
	errKind  = errors.New("no frame has this kind")
	errForm  = errors.New("no frame has this value")
	errLong  = errors.New("the bytes end too late")
)

// fault is an error with the index of the byte at which it was found.
type fault struct {
	err error
	at  int
}

// Error tells the place ahead of what is wrong there.
func (f *fault) Error() string {
	return "byte " + strconv.Itoa(f.at) + ": " + f.err.Error()
}

// Unwrap returns the error without its place.
func (f *fault) Unwrap() error { return f.err }

// number returns the error's number, by which callers know it; OK for none.
func number(err error) api.Errno {
	switch {
	case err == nil:
		return api.OK
	case errors.Is(err, errShort):
		return api.ErrShort
	case errors.Is(err, errSum):
		return api.ErrSum
	case errors.Is(err, errKind):
		return api.ErrKind
	case errors.Is(err, errLong):
		return api.ErrLong
	}
	return api.ErrForm
}

// place returns the index with which the error is wrapped; 0 for no error.
func place(err error) int {
	var f *fault
	if errors.As(err, &f) {
		return f.at
	}
	return 0
}
