package tree

import (
	"errors"

	"undercroft/api"
)

// A fault is an error with what it was about.
type fault struct {
	about string
	err   error
}

func (f fault) Error() string { return f.about + ": " + f.err.Error() }

func (f fault) Unwrap() error { return f.err }

// wrapped: the error of that number; none, if the number says so. (An OK that were made an error would be one that isn't nil.)
func wrapped(about string, e api.Errno) error {
	if e == api.OK {
		return nil
	}
	return fault{about, e}
}

// number: the number that an error wraps.
func number(err error) api.Errno {
	var e api.Errno
	errors.As(err, &e)
	return e
}
