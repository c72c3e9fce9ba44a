package token

import (
	"strings"

	"bringup/api"
)

// cutNumber returns the number with which a text begins.
func cutNumber(text string) (api.Token, int, api.Errno) {
	n := lead(text, wordCharacter)
	digits, base := split(text[:n])
	value, e := compute(digits, base)
	if e != api.OK {
		return api.Token{}, 0, e
	}
	return api.Token{Kind: api.TokenNumber, Value: value}, n, api.OK
}

// split returns the digits of a number and their base. The 0 alone is taken as octal, which does not change its value.
func split(number string) (string, int) {
	if digits, ok := strings.CutPrefix(number, "0x"); ok {
		return digits, 16
	}
	if number[0] == '0' {
		return number, 8
	}
	return number, 10
}

// compute returns the value of digits. A wrong digit is an error before the size of the number is one.
func compute(digits string, base int) (int, api.Errno) {
	if digits == "" {
		return 0, api.ErrSyntax
	}
	value := 0
	for i := range len(digits) {
		d := digitValue(digits[i])
		if d >= base {
			return 0, api.ErrSyntax
		}
		// What is too great stays so, and does not overflow.
		value = min(value*base+d, api.MaxCell+1)
	}
	if value > api.MaxCell {
		return 0, api.ErrRange
	}
	return value, api.OK
}
