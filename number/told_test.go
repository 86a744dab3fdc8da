package number_test

import (
	"math/big"
	"regexp"
	"strings"

	"tipstave/api"
)

// What the chapter's sentences ask of each call, worked out by fractions and not by digits.

var (
	texts      = regexp.MustCompile(`\A(?:[0-9]+(?:\.[0-9]+)?|\.[0-9]+)\z`)
	digitsOnly = regexp.MustCompile(`\A[0-9]+\z`)
)

func power(n int) *big.Int {
	return new(big.Int).Exp(big.NewInt(10), big.NewInt(int64(n)), nil)
}

// value is the number that the digits are, divided by 10 to the power of the scale.
func value(n api.Number) *big.Rat {
	digits, _ := new(big.Int).SetString(n.Digits, 10)
	return new(big.Rat).SetFrac(digits, power(n.Scale))
}

// formOf is a fraction's one form: the least scale at which it is whole.
func formOf(v *big.Rat) api.Number {
	for scale := 0; ; scale++ {
		whole := new(big.Rat).Mul(v, new(big.Rat).SetInt(power(scale)))
		if whole.IsInt() {
			return api.Number{Digits: whole.Num().String(), Scale: scale}
		}
	}
}

func toldRead(s string) (api.Number, api.Errno) {
	if !texts.MatchString(s) {
		return api.Number{}, api.ErrForm
	}
	if len(s)-strings.Count(s, ".") > 1000 {
		return api.Number{}, api.ErrLong
	}
	v, _ := new(big.Rat).SetString(s)
	return formOf(v), 0
}

func toldWrong(n api.Number) api.Errno {
	switch {
	case !digitsOnly.MatchString(n.Digits):
		return api.ErrForm
	case len(n.Digits) > 1000:
		return api.ErrLong
	case n.Scale < 0 || n.Scale > 1000:
		return api.ErrRange
	}
	return 0
}

func toldCanon(n api.Number) (api.Number, api.Errno) {
	if e := toldWrong(n); e != 0 {
		return api.Number{}, e
	}
	return formOf(value(n)), 0
}

func toldText(n api.Number) (string, api.Errno) {
	if e := toldWrong(n); e != 0 {
		return "", e
	}
	v := value(n)
	return v.FloatString(formOf(v).Scale), 0
}

func toldBoth(a, b api.Number) api.Errno {
	if e := toldWrong(a); e != 0 {
		return e
	}
	return toldWrong(b)
}

func toldCompare(a, b api.Number) (int, api.Errno) {
	if e := toldBoth(a, b); e != 0 {
		return 0, e
	}
	return value(a).Cmp(value(b)), 0
}

func toldAdd(a, b api.Number) (api.Number, api.Errno) {
	if e := toldBoth(a, b); e != 0 {
		return api.Number{}, e
	}
	n := formOf(new(big.Rat).Add(value(a), value(b)))
	if len(n.Digits) > 1000 {
		return api.Number{}, api.ErrLong
	}
	return n, 0
}
