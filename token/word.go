package token

import (
	"strconv"

	"licit/api"
)

// Name reports whether a string is an identifier: a name that is not a keyword.
func Name(s string) bool { return isName(s) && !isKeyword(s) }

// isName says whether a string is the text of a name.
func isName(s string) bool {
	return s != "" && len(s) <= api.MaxName && isLetter(rune(s[0])) && run(s, isInName) == len(s)
}

// isKeyword says whether a string has a meaning in head lines or in bodies.
func isKeyword(s string) bool {
	switch s {
	case "let", "set", "if", "else", "while", "return", "do", "out", "store", "load", "in",
		"include", "define", "undef", "when", "unless", "note", "extern", "export", "weak", "fn", "data":
		return true
	}
	return false
}

// Number returns the value of a number: ErrSyntax, if the string is not a run of digits without a leading zero; ErrRange, if its value has more than 32 bits.
func Number(s string) (uint32, api.Errno) {
	if s == "" || run(s, isDigit) < len(s) || s[0] == '0' && s != "0" {
		return 0, api.ErrSyntax
	}
	value, err := strconv.ParseUint(s, 10, 32)
	if err != nil {
		return 0, api.ErrRange
	}
	return uint32(value), api.OK
}
