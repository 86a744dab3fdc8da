package number

import (
	"strings"

	"tipstave/api"
)

// areDigits asks whether a text is digits, one at least.
func areDigits(s string) bool {
	for i := range len(s) {
		if s[i] < '0' || '9' < s[i] {
			return false
		}
	}
	return s != ""
}

// oneForm is the one form of the number that digits and a scale are, be they ever so many.
func oneForm(digits string, scale int) api.Number {
	digits = strings.TrimLeft(digits, "0")
	if digits == "" {
		return api.Number{Digits: "0"}
	}
	ending := len(digits) - len(strings.TrimRight(digits, "0"))
	spare := min(ending, scale)
	return api.Number{Digits: digits[:len(digits)-spare], Scale: scale - spare}
}

// aligned are the digits of two numbers, with which nothing is wrong, at one scale, as many of one as of the other, and that scale.
func aligned(a, b api.Number) (string, string, int) {
	scale := max(a.Scale, b.Scale)
	x := a.Digits + strings.Repeat("0", scale-a.Scale)
	y := b.Digits + strings.Repeat("0", scale-b.Scale)
	long := max(len(x), len(y))
	return strings.Repeat("0", long-len(x)) + x, strings.Repeat("0", long-len(y)) + y, scale
}

// sum are the digits of the sum, one more than each of the two has, who have equally many.
func sum(x, y string) string {
	digits := make([]byte, len(x)+1)
	carry := byte(0)
	for i := range len(x) {
		at := len(x) - 1 - i
		d := x[at] - '0' + y[at] - '0' + carry
		digits[at+1] = '0' + d%10
		carry = d / 10
	}
	digits[0] = '0' + carry
	return string(digits)
}
