package number

import (
	"errors"

	"tipstave/api"
)

// fault is what is wrong with a text or a number.
type fault struct{ errno api.Errno }

func (f fault) Error() string { return f.errno.Error() }

// errnoOf is the number of what is wrong: OK, if nothing is.
func errnoOf(err error) api.Errno {
	var f fault
	if errors.As(err, &f) {
		return f.errno
	}
	return api.OK
}

func check(n api.Number) error {
	switch {
	case !areDigits(n.Digits):
		return fault{api.ErrForm}
	case len(n.Digits) > api.MaxDigits:
		return fault{api.ErrLong}
	case n.Scale < 0 || n.Scale > api.MaxDigits:
		return fault{api.ErrRange}
	}
	return nil
}

// checkBoth tells what is wrong with the first ahead of the second.
func checkBoth(a, b api.Number) error {
	if err := check(a); err != nil {
		return err
	}
	return check(b)
}
